/-
 What Find and Child of package page answer. Condition: pages within the model's reach.
-/
import Derived.Test.YtlkgmnjceghpiaaGreatRows
import Derived.Test.YtlkgmnjceghpiaaGreatLkPlain
import Derived.WalkKit
import Derived.WalkSpells
import Derived.WalkLawsBesides
import Derived.Below
import Derived.Lib.Hide
import Derived.Lib.Strings
import Derived.Laws.AppendOwn
import Derived.Laws.AppendOwnNone
import Derived.Deep.QuietTactic
import Derived.BigQuiet
namespace Go.Proofs.YtlkgmnjceghpiaaGreat
open Go.RowKit Go.Deep Plain
set_option linter.unusedVariables false
open _root_.Go.Proofs.Tryz
open Go.Value (int)
set_option maxHeartbeats 8000000
set_option maxRecDepth 100000
section

structure Rs(w:World)(A:Option Addr)(c:Nat)(xs:List Sl):Prop where
 le:xs.length<=c
 max:c<=maxLen
 none':A=none->c=0
 some':0<xs.length->∃ g off,A=some ⟨g,off,none⟩/\g<w.heap.size/\∀ j u,(flat xs)[j]? = some u->w.cell? ⟨g,off+j,none⟩=some u

theorem Rs.below{w w':World}{A:Option Addr}{c:Nat}{xs:List Sl}{B:Nat}(h:Rs w A c xs)(hb:Below B w w')(hB:w.heap.size<=B):Rs w' A c xs :=
 ⟨h.le,h.max,h.none',λ hp=>by
  obtain⟨g,off,e,hg,hc⟩:=h.some' hp;exact⟨g,off,e,Nat.lt_of_lt_of_le hg hb.size,λ j u hu=>(hb.cell (p:=⟨g,off+j,none⟩) (Nat.lt_of_lt_of_le hg hB)).trans (hc j u hu)⟩⟩
theorem Rs.at{w:World}{A:Option Addr}{c:Nat}{xs:List Sl}(h:Rs w A c xs)(hp:0<xs.length):∃ g off,A=some ⟨g,off,none⟩/\g<w.heap.size/\∀(i:Nat) (x:Sl),xs[i]? = some x ->
  w.cell? ⟨g,off+i*2,none⟩=some (.string x.1)/\w.cell? ⟨g,off+i*2+1,none⟩=some (int .u64 x.2):=by
 obtain⟨g,off,e,hg,hc⟩:=h.some' hp;exact⟨g,off,e,hg,λ i x hx=>by
  obtain⟨f1,f2⟩:=flat_at xs i x hx;exact⟨hc _ _ f1,by rw[Nat.add_assoc];exact hc _ _ f2⟩⟩
theorem Rs.nil(w:World):Rs w none 0 []:=⟨Nat.le_refl _,Nat.zero_le _,λ_=>rfl,λ h=>absurd h (by simp)⟩
theorem Rs.take{w:World}{A:Option Addr}{c:Nat}{xs:List Sl}(h:Rs w A c xs)(i:Nat):Rs w A c (xs.take i) :=
 ⟨by rw[List.length_take];have:=h.le;omega,h.max,h.none',λ hp=>by
  obtain⟨g,off,e,hg,hc⟩:=h.some' (by rw[List.length_take] at hp;omega);refine⟨g,off,e,hg,λ j u hu=>hc j u ?_⟩;have e2:flat xs=flat (xs.take i)++flat (xs.drop i):=by rw[←flat_append,List.take_append_drop]
  rw[e2,List.getElem?_append_left (List.getElem?_eq_some_iff.1 hu).1];exact hu⟩
theorem Rs.drop{w:World}{A:Option Addr}{c:Nat}{xs:List Sl}(h:Rs w A c xs)(i:Nat)(hi:i<=xs.length):Rs w (if c=i then A else A.map (·.add (i*2))) (c-i) (xs.drop i) :=
 ⟨by rw[List.length_drop];have:=h.le;omega,by have:=h.max;omega,λ hn=>by
  by_cases hc:c=i
  ·omega
  ·rw[if_neg hc] at hn
   cases A with
   | none=>have:=h.none' rfl;omega
   | some a=>simp at hn,λ hp=>by
  rw[List.length_drop] at hp;obtain⟨g,off,e,hg,hc⟩:=h.some' (by omega);have hl:=h.le;refine⟨g,off+i*2,?_,hg,λ j u hu=>?_⟩
  ·rw[if_neg (by omega),e];simp[Addr.add]
  ·have e2:flat xs=flat (xs.take i)++flat (xs.drop i):=by rw[←flat_append,List.take_append_drop]
   have:=hc (i*2+j) u (by
    rw[e2,List.getElem?_append_right (by rw[flat_length,List.length_take,Nat.min_eq_left hi];omega),flat_length,List.length_take,Nat.min_eq_left hi,Nat.add_sub_cancel_left];exact hu)
   rw[Nat.add_assoc];exact this⟩
theorem Rs.own{w:World}{base:Nat}{v:Value}{n:Nat}{xs:List Sl}(h:w.ownsRow base 70 2 v n (flat xs)):∃ A c,v=.slice A n c/\xs.length=n/\Rs w A c xs/\(∀ a,A=some a->base<=a.block):=by
 have hl:xs.length=n:=by have:=h.1;rw[flat_length] at this;omega
 rcases h.2 with⟨rfl,rfl⟩|⟨g,cap,cur,rfl,hb,hg,hc,hm,rest⟩
 ·exact⟨none,0,rfl,hl,⟨by omega,Nat.zero_le _,λ_=>rfl,λ h=>absurd h (by omega)⟩,λ_ h=>by cases h⟩
 ·refine⟨_,cap,rfl,hl,⟨by omega,hm,λ h=>(by cases h),λ_=>⟨g,0,rfl,(Array.getElem?_eq_some_iff.1 hg).1,λ j u hu=>?_⟩⟩,λ a ha=>by cases ha;exact hb⟩
  have:=h.cells (g:=g) rfl j u hu;rw[Addr.add_lit] at this;exact this

theorem Blk.below{w w1:World}{b B:Nat}{t:TypeId}{xs:List Value}(h:Blk w b t xs)(hb:Below B w w1)(hB:b<B):Blk w1 b t xs:=h.of (hb.block _ hB)
theorem box_one(w:World)(ps:List Value)(tp:TypeId):Blk (w.alloc (.cells ⟨ps⟩ tp)) w.heap.size tp ps/\Below w.heap.size w (w.alloc (.cells ⟨ps⟩ tp))/\(w.alloc (.cells ⟨ps⟩ tp)).heap.size=w.heap.size+1 :=
 ⟨Blk.new _ _ _,(Below.refl _ _).alloc (Nat.le_refl _) _,nblk_alloc _ _⟩
theorem box_two(w:World)(ps rs:List Value)(tp tr:TypeId):Blk ((w.alloc (.cells ⟨ps⟩ tp)).alloc (.cells ⟨rs⟩ tr)) w.heap.size tp ps/\Blk ((w.alloc (.cells ⟨ps⟩ tp)).alloc (.cells ⟨rs⟩ tr)) (w.heap.size+1) tr rs /\
  Below w.heap.size w ((w.alloc (.cells ⟨ps⟩ tp)).alloc (.cells ⟨rs⟩ tr))/\((w.alloc (.cells ⟨ps⟩ tp)).alloc (.cells ⟨rs⟩ tr)).heap.size=w.heap.size+2:=by
 obtain⟨h1,h2,h3⟩:=box_one w ps tp;refine⟨h1.alloc _,?_,h2.alloc (by rw[h3];omega) _,by rw[nblk_alloc,h3]⟩;have:=Blk.new (w.alloc (.cells ⟨ps⟩ tp)) rs tr;rw[h3] at this;exact this

theorem Tryz.info70: (prog.info? 70).map (λ i=>(i.zero,i.size,i.bytes))=some (some (.agg #[.string ByteArray.empty,int .u64 0]),2,24):=by kernel_rfl

theorem own_less{w:World}{base base' e size n:Nat}{v:Value}{xs:List Value}(h:w.ownsRow base e size v n xs)(hb:base'<=base):w.ownsRow base' e size v n xs:=by
 refine⟨h.1,?_⟩;rcases h.2 with hn|⟨g,cap,cur,rfl,hg,rest⟩
 ·exact .inl hn
 ·exact .inr ⟨g,cap,cur,rfl,Nat.le_trans hb hg,rest⟩
theorem own_below{w w':World}{base e size n B:Nat}{v:Value}{xs:List Value}(h:w.ownsRow base e size v n xs)(hb:Below B w w')(hB:w.heap.size<=B):w'.ownsRow base e size v n xs:=by
 refine⟨h.1,?_⟩;rcases h.2 with hn|⟨g,cap,cur,rfl,hg,hh,rest⟩
 ·exact .inl hn
 ·exact .inr ⟨g,cap,cur,rfl,hg,(hb.block g (Nat.lt_of_lt_of_le (Array.getElem?_eq_some_iff.1 hh).1 hB)).trans hh,rest⟩

theorem Rs.one(w:World)(k:ByteArray)(r:Nat):Rs (w.alloc (.cells #[.string k,int .u64 r] 70)) (some ⟨w.heap.size,0,none⟩) 1 [(k,r)] :=
 ⟨Nat.le_refl _,by unfold maxLen;omega,λ h=>(by cases h),λ_=>⟨_,_,rfl,by simp,λ j u hu=>by
  match j,hu with
  | 0,hu=>simp[flat] at hu;subst hu;simp
  | 1,hu=>simp[flat] at hu;subst hu;simp
  | j+2,hu=>simp[flat] at hu⟩⟩

theorem own_res{w:World}{base e size n:Nat}{v:Value}{xs:List Value}(h:w.ownsRow base e size v n xs){r:Nat}(hr:r<base)(u0 u1 u2 u3 u4:Value) :
  (((((w.setCell ⟨r,0,none⟩ u0).setCell ⟨r,1,none⟩ u1).setCell ⟨r,2,none⟩ u2).setCell ⟨r,3,none⟩ u3).setCell ⟨r,4,none⟩ u4).ownsRow base e size v n xs :=
 ownsRow_setCell_below (ownsRow_setCell_below (ownsRow_setCell_below (ownsRow_setCell_below (ownsRow_setCell_below h hr _) hr _) hr _) hr _) hr _
theorem own_page{w:World}{base e size n:Nat}{v:Value}{xs:List Value}(h:w.ownsRow base e size v n xs){p r:Nat}(hp:p<base)(hr:r<base)(u u0 u1 u2 u3 u4:Value) :
  ((((((w.setCell ⟨p,1,none⟩ u).setCell ⟨r,0,none⟩ u0).setCell ⟨r,1,none⟩ u1).setCell ⟨r,2,none⟩ u2).setCell ⟨r,3,none⟩ u3).setCell ⟨r,4,none⟩ u4).ownsRow base e size v n xs :=
 own_res (ownsRow_setCell_below h hp u) hr _ _ _ _ _
theorem below_res{B:Nat}{a w:World}(h:Below B a w){r:Nat}(hr:B<=r)(u0 u1 u2 u3 u4:Value) :
  Below B a (((((w.setCell ⟨r,0,none⟩ u0).setCell ⟨r,1,none⟩ u1).setCell ⟨r,2,none⟩ u2).setCell ⟨r,3,none⟩ u3).setCell ⟨r,4,none⟩ u4) :=
 ((((h.setCell hr _).setCell hr _).setCell hr _).setCell hr _).setCell hr _
theorem below_page{B:Nat}{a w:World}(h:Below B a w){p r:Nat}(hp:B<=p)(hr:B<=r)(u u0 u1 u2 u3 u4:Value) :
  Below B a ((((((w.setCell ⟨p,1,none⟩ u).setCell ⟨r,0,none⟩ u0).setCell ⟨r,1,none⟩ u1).setCell ⟨r,2,none⟩ u2).setCell ⟨r,3,none⟩ u3).setCell ⟨r,4,none⟩ u4) :=
 below_res (h.setCell (p:=⟨p,1,none⟩) hp u) hr _ _ _ _ _

section
variable {w:World} {ops:Array Oper} {rest:List Oper} {o:Oper} {a:Act} {Q:Exit->Act->World->Prop}
theorem wpList_app(hgd:o.guard=none)(s x:Operand)(ho:o.op=.call { callee:=.builtin .append,args := #[s,x],argTypes := #[62,62] })
  (base:Nat) (v:Value) (n:Nat) (xs:List Sl) (hs:a.eval s=v) (hown:w.ownsRow base 70 2 v n (flat xs)) (A:Option Addr) (m c:Nat) (ys:List Sl) (hx:a.eval x=.slice A m c)
  (hm:ys.length=m) (hR:Rs w A c ys) (h40:n+m<=1099511627776) (hbase:base<=w.heap.size)
  (h:∀ v' w',w'.ownsRow base 70 2 v' (n+m) (flat (xs++ys))->Below base w w'->wpList prog ops Q rest (a.put o.dst v') w'):wpList prog ops Q (o::rest) a w:=by
 obtain⟨i,hi,hz0,hz1,hz2⟩:=info_parts Tryz.info70;cases A with
 | none =>
  obtain rfl:=hR.none' rfl;have hl:=hR.le;have h0:ys=[]:=List.eq_nil_of_length_eq_zero (by omega);subst h0;obtain rfl:m=0:=by simpa using hm.symm
  refine wpList_append_own_none hgd s x 62 ho base 70 i 2 Tryz.underlying62 hi v n (flat xs) hs hown hx ?_;refine h _ _ ?_ (Below.refl _ _);rw[List.append_nil];exact hown
 | some ad =>
  refine wpList_append_own w hgd s x 62 ho base 70 i _ 2 24 Tryz.underlying62 hi hz0 hz1 hz2 rfl (by decide) v n (flat xs) hs hown ad m c (flat ys) hx (by rw[flat_length,hm]) ?_ (flat_one ys) (by unfold maxLen;omega) (by omega) hbase ?_
  ·intro j u hu
   have hp:0<ys.length:=by
    have:=(List.getElem?_eq_some_iff.1 hu).1;rw[flat_length] at this;omega
   obtain⟨g,off,e,_,hc⟩:=hR.some' hp;cases e;rw[Addr.add_lit];exact hc j u hu
  ·intro v' w' hown' hgr _
   refine h v' w' (by rw[flat_append];exact hown') ?_;exact(Below.refl base w).grown hgr hbase λ k hk=>(hown.lt k hk).1
end
end

section
open Go.RowKit Plain

theorem cmp_any(a b:ByteArray)(w:World) :
  Calls prog 159 #[.string a,.string b] w λ e w'=>e=.returned (int .i64 (cmp a.toList b.toList))/\w=w':=by
 have e1:=bytesLess_ltB a.toList b.toList;unfold cmp;cases h:ltB a.toList b.toList
 ·rw[h] at e1
  cases k:ltB b.toList a.toList
  ·have he:(a.toList==b.toList)=true:=by rw[ltB_tri _ _ h k];simp
   clear h k;go_enter func159,ntmps159;go_wp2;go_ret;exact⟨by simp,rfl⟩
  ·have he:(a.toList==b.toList)=false:=by
    cases hx:a.toList==b.toList
    ·rfl
    ·rw[beq_iff_eq] at hx;rw[hx,ltB_self] at k;exact absurd k (by decide)
   clear h k;go_enter func159,ntmps159;go_wp2;go_ret;exact⟨by simp,rfl⟩
 ·rw[h] at e1
  clear h;go_enter func159,ntmps159;go_wp2;go_ret;exact⟨by simp,rfl⟩

theorem cmp_lt{x:Sl}{k:ByteArray}:decide (cmp x.1.toList k.toList<0)=lt x k:=by
 unfold cmp lt;cases h:ltB x.1.toList k.toList
 ·cases k:ltB k.toList x.1.toList<;>simp
 ·simp
theorem cmp_eq{x:Sl}{k:ByteArray}:(cmp x.1.toList k.toList==0)=eqk x k:=by
 unfold cmp eqk;cases h:ltB x.1.toList k.toList
 ·cases h2:ltB k.toList x.1.toList
  ·rw[ltB_tri _ _ h h2];simp
  ·cases hx:x.1.toList==k.toList
   ·simp
   ·rw[beq_iff_eq] at hx;rw[hx,ltB_self] at h2;exact absurd h2 (by decide)
 ·cases hx:x.1.toList==k.toList
  ·simp
  ·rw[beq_iff_eq] at hx;rw[hx,ltB_self] at h;exact absurd h (by decide)

theorem compareKey_any(x:Sl)(k:ByteArray)(c:Int)(w:World)(hc:cmp x.1.toList k.toList=c) :
  Calls prog 130 #[.agg #[.string x.1,int .u64 x.2],.string k] w λ e w'=>e=.returned (int .i64 c)/\Below w.heap.size w w':=by
 go_enter func130,ntmps130;go_wp2_with fail;refine(cmp_any _ _ _).mono ?_;rintro e w1 ⟨rfl,rfl⟩;rw[hc];go_wp2;go_ret;exact⟨rfl,(Below.refl _ _).alloc (Nat.le_refl _) _⟩

theorem search_any(A:Option Addr)(c:Nat)(xs:List Sl)(k:ByteArray)(w:World)(n:Nat)(hn:xs.length=n)(h40:n<=1099511627776)(hR:Rs w A c xs)(ha:Asc xs) :
  Calls prog 129 #[.slice A n c,.string k,.func (.func 130) #[] #[]] w λ e w' =>
   e=.returned (.tuple #[int .i64 (cnt k xs:Nat),.bool (has k xs)])/\Below w.heap.size w w':=by
 obtain⟨q,hq⟩:∃ q,cnt k xs=q:=⟨_,rfl⟩;obtain⟨b,hb⟩:∃ b,has k xs=b:=⟨_,rfl⟩;have hqn:q<=n:=by rw[←hq, ←hn];exact cnt_le k xs
 have hlt:∀ i x,xs[i]? = some x->lt x k=decide (i<q):=λ i x hx=>by rw[←hq];exact lt_at xs ha k i x hx
 have hh:b=(match xs[q]? with|some x=>eqk x k|none=>false):=by rw[←hb, ←hq];exact has_at xs ha k
 rw[hq,hb];have HLT:=Hd hlt;have HH:=Hd hh;have HN:=Hd hn;have HR:=Hd hR;clear hlt hh hq hb hn hR ha;go_enter func129,ntmps129;go_wp2_with fail;go_loopw [9,10] (λ i j wr=>∃ lo hi:Nat,lo<=q/\q<=hi/\hi<=n/\i=int .i64 lo/\j=int .i64 hi/\Below w.heap.size w wr) (λ i j _=>(intOf j).toNat-(intOf i).toNat)
 case atStart=>exact⟨0,n,by omega,hqn,Nat.le_refl _,rfl,rfl,Below.refl _ _⟩
 case round =>
  obtain⟨lo,hi,h1,h2,h3,rfl,rfl,hB⟩:=hrel
  by_cases hcase:lo<hi
  ·obtain⟨m,hm⟩:∃ m:Nat,((lo:Int)+(hi:Int)) / 2=(m:Int):=⟨(lo+hi) / 2,by omega⟩
   have hm1:lo<=m:=by omega
   have hm2:m<hi:=by omega
   obtain⟨x,hx⟩:∃ x,xs[m]? = some x:=⟨_,List.getElem?_eq_getElem (by have:=HN.o;omega)⟩;have hL:=HLT.o m x hx;obtain⟨g,off,rfl,hg,hcell⟩:=(HR.o.below hB (Nat.le_refl _)).at (by have:=HN.o;omega);obtain⟨c0,c1⟩:=hcell m x hx;have HB:=Hd hB;clear hcell hB hx
   by_cases hmq:m<q
   ·have hcm:decide (cmp x.1.toList k.toList<0)=true:=by rw[cmp_lt,hL];simpa using hmq
    obtain⟨y,hy⟩:∃ y,cmp x.1.toList k.toList=y:=⟨_,rfl⟩;rw[hy] at hcm;have HY:=Hd hy;clear hy hL;go_wp2_with fail;refine(compareKey_any x k y _ HY.o).mono ?_;rintro e w1 ⟨rfl,hB1⟩;have HB1:=Hd (HB.o.trans (hB1.mono HB.o.size));clear hB1;go_wp2;go_roundw
    case rel=>exact⟨m+1,hi,by omega,h2,h3,by go_num,rfl,HB1.o⟩
    case measure=>simp[intOf];omega
   ·have hcm:decide (cmp x.1.toList k.toList<0)=false:=by rw[cmp_lt,hL];simpa using hmq
    obtain⟨y,hy⟩:∃ y,cmp x.1.toList k.toList=y:=⟨_,rfl⟩;rw[hy] at hcm;have HY:=Hd hy;clear hy hL;go_wp2_with fail;refine(compareKey_any x k y _ HY.o).mono ?_;rintro e w1 ⟨rfl,hB1⟩;have HB1:=Hd (HB.o.trans (hB1.mono HB.o.size));clear hB1;go_wp2;go_roundw
    case rel=>exact⟨lo,m,h1,by omega,by omega,rfl,rfl,HB1.o⟩
    case measure=>simp[intOf];omega
  ·obtain rfl:lo=q:=by omega
   by_cases hin:lo<n
   ·obtain⟨x,hx⟩:∃ x,xs[lo]? = some x:=⟨_,List.getElem?_eq_getElem (by have:=HN.o;omega)⟩
    obtain⟨g,off,rfl,hg,hcell⟩:=(HR.o.below hB (Nat.le_refl _)).at (by have:=HN.o;omega);obtain⟨c0,c1⟩:=hcell lo x hx;have hbx:(cmp x.1.toList k.toList==0)=b:=by rw[HH.o,hx,cmp_eq]
    obtain⟨y,hy⟩:∃ y,cmp x.1.toList k.toList=y:=⟨_,rfl⟩;rw[hy] at hbx;have HY:=Hd hy;have HB:=Hd hB;clear hcell hB hx hy;go_wp2_with fail;refine(compareKey_any x k y _ HY.o).mono ?_;rintro e w1 ⟨rfl,hB1⟩;have HB1:=Hd (HB.o.trans (hB1.mono HB.o.size));clear hB1;go_wp2;go_ret2;exact⟨rfl,HB1.o⟩
   ·have hbx:false=b:=by rw[HH.o,List.getElem?_eq_none (by have:=HN.o;omega)]
    have hd:decide (lo<n)=false:=by simpa using hin
    subst hbx;go_wp2;go_ret2;exact⟨rfl,hB⟩

theorem find_any(lv:Int)(A:Option Addr)(c:Nat)(hi:ByteArray)(la:Bool)(rt:Nat)(xs:List Sl)(k:ByteArray)(w:World)(n:Nat)(hn:xs.length=n)(h40:n<=1099511627776)(hR:Rs w A c xs)(ha:Asc xs) :
  Calls prog 81 #[.agg #[int .i64 lv,.slice A n c,.string hi,.bool la,int .u64 rt],.string k] w λ e w' =>
   e=.returned (.tuple #[int .i64 (cnt k xs:Nat),.bool (has k xs)])/\Below w.heap.size w w':=by
 go_enter func81,ntmps81;go_wp2_with fail;refine(search_any A c xs k _ n hn h40 (hR.below ((Below.refl _ _).alloc (Nat.le_refl _) _) (Nat.le_refl _)) ha).mono ?_;rintro e w1 ⟨rfl,hB1⟩;have hB2:=((Below.refl w.heap.size w).alloc (Nat.le_refl _) _).trans (hB1.mono (by simp));go_wp2;go_ret2;exact⟨rfl,hB2⟩
end

section


def before(xs:List Sl)(i:Nat):Option Sl:=if i=0 then none else xs[i-1]?

def near:Option Sl->ByteArray × Nat × Bool
 | some x=>(x.1,x.2,true)
 | none=>(⟨#[]⟩,0,false)

theorem before_take(xs:List Sl)(i:Nat):before (xs.take i) i=before xs i:=by
 unfold before;split
 ·rfl
 ·rw[List.getElem?_take,if_pos (by omega)]

theorem before_some{xs:List Sl}{i:Nat}(h:0<i)(hi:i<=xs.length):∃ x,before xs i=some x/\xs[i-1]? = some x:=by
 unfold before;rw[if_neg (by omega)];exact⟨_,List.getElem?_eq_getElem (by omega),List.getElem?_eq_getElem (by omega)⟩

theorem near_zero{xs:List Sl}{s:ByteArray}{r:Nat}{b:Bool}(h:near (before xs 0)=(s,r,b)):s=⟨#[]⟩/\r=0/\b=false:=by
 simp only[before,if_true,near,Prod.mk.injEq] at h;exact⟨h.1.symm,h.2.1.symm,h.2.2.symm⟩

theorem near_pos{xs:List Sl}{i:Nat}{s:ByteArray}{r:Nat}{b:Bool}(h0:0<i)(hi:i<=xs.length)(h:near (before xs i)=(s,r,b)):xs[i-1]? = some (s,r)/\b=true:=by
 obtain⟨x,hx,hx2⟩:=before_some h0 hi;rw[hx] at h;simp only[near,Prod.mk.injEq] at h;obtain⟨rfl,rfl,rfl⟩:=h;exact⟨hx2,rfl⟩

theorem lastOf_any(A:Option Addr)(c:Nat)(xs:List Sl)(w:World)(n:Nat)(hn:xs.length=n)(h40:n<=1099511627776)(hR:Rs w A c xs)(s:ByteArray)(r:Nat)(b:Bool)(h:near (before xs n)=(s,r,b)) :
  Calls prog 151 #[.slice A n c] w λ e w'=>e=.returned (.tuple #[.agg #[.string s,int .u64 r],.bool b])/\Below w.heap.size w w':=by
 by_cases h0:n=0
 ·subst h0
  obtain⟨rfl,rfl,rfl⟩:=near_zero h;go_enter func151,ntmps151;go_wp2;refine bodyPost_ret (v:=.tuple #[.agg #[.string ⟨#[]⟩,int .u64 0],.bool false]) (by first|(simp[results,Tryz.results151,go_sem];done)|(simp[results,Tryz.results151,go_sem, *];done)) rfl ⟨rfl,?_⟩;exact(Below.refl _ _).alloc (Nat.le_refl _) _
 ·obtain⟨hx2,rfl⟩:=near_pos (by omega) (by omega) h
  have hR1:Rs (w.alloc (.cells #[.string ⟨#[]⟩,int .u64 0] 70)) A c xs:=hR.below ((Below.refl _ _).alloc (Nat.le_refl _) _) (Nat.le_refl _);obtain⟨g,off,rfl,hg,hcell⟩:=hR1.at (by omega);obtain⟨c0,c1⟩:=hcell (n-1) _ hx2;clear hcell hx2 hR1 hR h;go_enter func151,ntmps151;go_wp2;refine bodyPost_ret (v:=.tuple #[.agg #[.string s,int .u64 r],.bool true]) (by first|(simp[results,Tryz.results151,go_sem];done)|(simp[results,Tryz.results151,go_sem, *];done)) rfl ⟨rfl,?_⟩;exact(Below.refl _ _).alloc (Nat.le_refl _) _

theorem child_any(lv:Int)(A:Option Addr)(c:Nat)(hi:ByteArray)(la:Bool)(rt:Nat)(xs:List Sl)(k:ByteArray)(w:World)(n:Nat)(hn:xs.length=n)(h40:n<=1099511627776)(hR:Rs w A c xs)(ha:Asc xs)(s:ByteArray)(r:Nat)(b:Bool)(h:near (before xs (if has k xs=true then cnt k xs+1 else cnt k xs))=(s,r,b)) :
  Calls prog 110 #[.agg #[int .i64 lv,.slice A n c,.string hi,.bool la,int .u64 rt],.string k] w λ e w'=>e=.returned (.tuple #[.agg #[.string s,int .u64 r],.bool b])/\Below w.heap.size w w':=by
 have hq:=cnt_le k xs;have hin:has k xs=true->cnt k xs<xs.length:=λ h=>by obtain⟨_,_,_,h⟩:=has_in ha h;exact h
 have hqc:cnt k xs<=c:=by have:=hR.le;omega
 obtain⟨P0,S0,B0,Z0⟩:=box_two w [int .i64 lv,.slice A n c,.string hi,.bool la,int .u64 rt] [.string ⟨#[]⟩,int .u64 0] 64 70;go_enter func110,ntmps110;go_wp2_with fail;refine(find_any lv A c hi la rt xs k _ n hn h40 (hR.below B0 (Nat.le_refl _)) ha).mono ?_;rintro e w1 ⟨rfl,hB1⟩;rw[Z0] at hB1;have P1:=P0.below hB1 (by omega);have S1:=S0.below hB1 (by omega);have B1:=B0.trans (hB1.mono (by omega));have R1:=hR.below B1 (Nat.le_refl _);have b1:=P1.k 1 rfl;have y0:=S1.k 0 rfl;have y1:=S1.k 1 rfl;have z0:=S1.frozen 0;have z1:=S1.frozen 1;have hs1:=hB1.size;rw[Z0] at hs1;generalize hhh:has k xs=hh at *;generalize hqq:cnt k xs=q at *;have HR1:=Hd R1;have HB1:=Hd B1;have HS1:=Hd S1;have HH:=Hd h;have HQ:=Hd hqq;have HA:=Hd hhh;clear hR R1 P0 S0 B0 Z0 P1 S1 B1 hB1 h hqq hhh ha;cases hh
 ·have hql:(xs.take q).length=q:=by rw[List.length_take];omega
  have h1:near (before (xs.take q) q)=(s,r,b):=by rw[before_take];exact HH.o
  have H1:=Hd h1;clear h1;go_wp2_with fail;refine(lastOf_any _ _ (xs.take q) _ q hql (by omega) (HR1.o.take q) s r b H1.o).mono ?_;rintro e w2 ⟨rfl,hB2⟩;have S2:=HS1.o.below hB2 (by omega);have B2:=Hd (HB1.o.trans (hB2.mono (by omega)));have y0:=S2.k 0 rfl;have y1:=S2.k 1 rfl;have z0:=S2.frozen 0;have z1:=S2.frozen 1;clear S2 hB2;go_wp2;refine bodyPost_ret (v:=.tuple #[.agg #[.string s,int .u64 r],.bool b]) (by first|(simp[results,Tryz.results110,go_sem];done)|(simp[results,Tryz.results110,go_sem, *];done)) rfl ⟨rfl,?_⟩;exact(B2.out.setCell (Nat.le_succ _) _).setCell (Nat.le_succ _) _
 ·have hqn:=hin rfl
  obtain⟨hx,rfl⟩:=near_pos (xs:=xs) (i:=q+1) (by omega) (by omega) HH.o;rw[Nat.add_sub_cancel] at hx;obtain⟨g,off,rfl,hg,hcell⟩:=HR1.o.at (by omega);obtain⟨c0,c1⟩:=hcell q _ hx;clear hcell hx hin;go_wp2;refine bodyPost_ret (v:=.tuple #[.agg #[.string s,int .u64 r],.bool true]) (by first|(simp[results,Tryz.results110,go_sem];done)|(simp[results,Tryz.results110,go_sem, *];done)) rfl ⟨rfl,?_⟩;exact(HB1.o.setCell (Nat.le_succ _) _).setCell (Nat.le_succ _) _
end
end Go.Proofs.YtlkgmnjceghpiaaGreat
