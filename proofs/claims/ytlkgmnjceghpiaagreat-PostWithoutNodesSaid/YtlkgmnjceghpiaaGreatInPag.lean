/-
 What Insert of package page,what its Split calls,and the reference's Insert and Find answer. Condition: pages within the model's reach.
-/
import Derived.Test.YtlkgmnjceghpiaaGreatLkPag
import Derived.Test.YtlkgmnjceghpiaaGreatLkKeys
import Derived.Test.YtlkgmnjceghpiaaGreatLkNode
import Derived.Deep.RegionHeld3
namespace Go.Proofs.YtlkgmnjceghpiaaGreat
open Go.RowKit Go.Deep Plain
set_option linter.unusedVariables false
open _root_.Go.Proofs.Tryz
open Go.Value (int)
set_option maxHeartbeats 8000000
set_option maxRecDepth 100000
section
open Go.RowKit Plain

end

section

theorem pcopied_any(A:Option Addr)(c:Nat)(xs:List Sl)(w:World)(n:Nat)(hn:xs.length=n)(h40:n<=1099511627776)(hR:Rs w A c xs) :
  Calls prog 160 #[.slice A n c] w λ e w'=>∃ v',e=.returned v'/\w'.ownsRow w.heap.size 70 2 v' n (flat xs)/\Below w.heap.size w w':=by
 go_enter func160,ntmps160;go_wp2_with (at_builtin;go_must (refine wpList_app rfl (.const (.slice none 0 0)) (.tmp 3) rfl w.heap.size _ 0 [] rfl (World.ownsRow_nil _ _ _ _) A n c xs rfl hn hR (by omega) (Nat.le_refl _) ?_));intro v1 w1 hown hB;go_wp2;go_ret;exact⟨_,rfl,hown,hB⟩

theorem insert_yes(lv:Int)(A:Option Addr)(c:Nat)(hi:ByteArray)(la:Bool)(rt:Nat)(xs:List Sl)(k:ByteArray)(r:Nat)(w:World)(n:Nat)(hn:xs.length=n)(h40:n<=1099511627776)(hR:Rs w A c xs)(ha:Asc xs)(hk:has k xs=false)(hlt:n<1099511627776) :
  Calls prog 132 #[.agg #[int .i64 lv,.slice A n c,.string hi,.bool la,int .u64 rt],.string k,int .u64 r] w λ e w'=>∃ A' c',e=.returned (.tuple #[.agg #[int .i64 lv,.slice A' (n+1) c',.string hi,.bool la,int .u64 rt],.bool true]) /\
   w'.ownsRow w.heap.size 70 2 (.slice A' (n+1) c') (n+1) (flat (ins (k,r) xs))/\Below w.heap.size w w':=by
 have hq:=cnt_le k xs;have hqc:cnt k xs<=c:=by have:=hR.le;omega
 have hic:=ins_cut xs (k,r) ha;simp only at hic;obtain⟨P0,S0,B0,Z0⟩:=box_two w [int .i64 lv,.slice A n c,.string hi,.bool la,int .u64 rt] [int .i64 0,.slice none 0 0,.string ⟨#[]⟩,.bool false,int .u64 0] 64 64;go_enter func132,ntmps132;go_wp2_with fail;refine(find_any lv A c hi la rt xs k _ n hn h40 (hR.below B0 (Nat.le_refl _)) ha).mono ?_;rintro e w1 ⟨rfl,hB1⟩;rw[Z0] at hB1;have P1:=P0.below hB1 (by omega);have S1:=S0.below hB1 (by omega);have B1:=B0.trans (hB1.mono (by omega));have R1:=hR.below B1 (Nat.le_refl _);have b1:=P1.k 1 rfl;have hs1:=hB1.size;rw[Z0] at hs1;rw[hk];generalize cnt k xs=q at *;have hql:(xs.take q).length=q:=by rw[List.length_take];omega
 have HIC:=Hd hic;have HR1:=Hd R1;have HB1:=Hd B1;have HP1:=Hd P1;have HS1:=Hd S1;clear hR R1 P0 S0 B0 Z0 P1 S1 B1 hB1 ha hk hic;go_wp2_with fail;refine(pcopied_any _ _ (xs.take q) _ q hql (by omega) (HR1.o.take q)).mono ?_;rintro e w2 ⟨v2,rfl,hown2,hB2⟩;have hs2:=hB2.size;have HO2:=Hd hown2;have HP2:=Hd (HP1.o.below hB2 (by omega));have HS2:=Hd (HS1.o.below hB2 (by omega));have HB2:=Hd hB2;clear hown2 hB2 HP1 HS1 b1;go_wp2_with (at_builtin;go_must (refine wpList_app rfl (.tmp 23) (.tmp 27) rfl w1.heap.size _ q (xs.take q) rfl (HO2.o.alloc _) (some ⟨w2.heap.size,0,none⟩) 1 1 [(k,r)] rfl rfl (Rs.one w2 k r) (by omega) (by rw[nblk_alloc];omega) ?_));intro v3 w3 hown3 hB3;have hB3':=((Below.refl w1.heap.size w2).alloc hs2 _).trans hB3;have hs3:=hB3'.size;have HO3:=Hd hown3;have HP3:=Hd (HP2.o.below hB3' (by omega));have HS3:=Hd (HS2.o.below hB3' (by omega));have HR3:=Hd (HR1.o.below (HB2.o.trans hB3') (Nat.le_refl _));have HB3:=Hd (HB2.o.trans hB3');have b1:=HP3.o.k 1 rfl;clear hown3 hB3 hB3' HO2 HB2 HP2 HS2 HR1;go_wp2_with (at_builtin;go_must (refine wpList_app rfl (.tmp 29) (.tmp 33) rfl w1.heap.size _ (q+1) (xs.take q++[(k,r)]) rfl HO3.o _ (n-q) (c-q) (xs.drop q) rfl (by rw[List.length_drop];omega) (HR3.o.drop q (by omega)) (by omega) (by omega) ?_))
 all_goals
  intro v4 w4 hown4 hB4;have hs4:=hB4.size;have hP4:=HP3.o.below hB4 (by omega);have hS4:=HS3.o.below hB4 (by omega);rw[←HIC.o] at hown4;have e2:q+1+(n-q)=n+1:=by omega
  rw[e2] at hown4;obtain⟨A4,c4,rfl,hl4,hR4,hA4⟩:=Rs.own hown4;obtain⟨b0,b1,b2,b3,b4⟩:=hP4.c5;have x1:=hP4.frozen 1;obtain⟨y0,y1,y2,y3,y4⟩:=hS4.c5;have z0:=hS4.frozen 0;have z1:=hS4.frozen 1;have z2:=hS4.frozen 2;have z3:=hS4.frozen 3;have z4:=hS4.frozen 4;have HO4:=Hd hown4;have HB4:=Hd (HB1.o.trans ((HB3.o.trans hB4).mono (by omega)));clear hown4 hP4 hS4 hB4 HO3 HB3 HP3 HS3 HR3 hR4 hA4 hl4 e2 HIC;go_wp2;refine bodyPost_ret (v:=.tuple #[.agg #[int .i64 lv,.slice A4 (n+1) c4,.string hi,.bool la,int .u64 rt],.bool true]) (by simp[results,Tryz.results132,go_sem, *]) rfl ?_;exact⟨_,_,rfl,own_less (own_page HO4.o (by omega) (by omega) _ _ _ _ _ _) (by omega),below_page HB4.o (Nat.le_refl _) (Nat.le_succ _) _ _ _ _ _ _⟩
end

section

end

section

theorem ret_int2{k:IntKind}{a b:Int}(h:a=b):Ending.returned (.int k a)=.returned (.int k b):=by rw[h]

theorem common_any(a b:ByteArray)(w:World)(ha:a.size<=maxLen) :
  Calls prog 177 #[.string a,.string b] w λ e w'=>e=.returned (int .i64 (com a.toList b.toList))/\∃ n,w'=w.drewN n:=by
 unfold maxLen at ha;have hcl:=com_le a.toList b.toList;rw[len_toList,len_toList] at hcl;have hst:=com_step a.toList b.toList;have HS:=Hd hst;clear hst;go_enter func177,ntmps177;go_wp2;go_loopw [5] (λ i wr=>∃ k n:Nat,k<=com a.toList b.toList/\i=int .i64 k/\wr=w.drewN n) (λ i _=>com a.toList b.toList-(intOf i).toNat)
 case atStart=>exact⟨0,0,by omega,rfl,rfl⟩
 case round =>
  obtain⟨k,n,hk,rfl,rfl⟩:=hrel;have hs:=HS.o k hk;rw[len_toList,len_toList] at hs
  by_cases h1:k<a.size
  ·by_cases h2:k<b.size
   ·rw[getD_toList a k h1,getD_toList b k h2] at hs
    by_cases h3:a[k]=b[k]
    ·have hne:k≠com a.toList b.toList:=λ e=>hs.1 e ⟨h1,h2,h3⟩
     have hlt:k<com a.toList b.toList:=by omega
     have h4:((a[k].toNat:Int)==(b[k].toNat:Int))=true:=by rw[h3];simp
     clear hs h3 hne;go_wp2_with fail;go_quiet (fail);go_wp2;go_roundw
     case rel=>exact⟨k+1,n+nq,by omega,by go_num,rfl⟩
     case measure=>simp[intOf];omega
    ·have he:k=com a.toList b.toList:=hs.2 (λ h=>h3 h.2.2)
     have h4:((a[k].toNat:Int)==(b[k].toNat:Int))=false:=by
      rw[beq_eq_false_iff_ne];intro e;exact h3 (u8_eq (by omega))
     have HE:=Hd he;clear hs h3 he;go_wp2_with fail;go_quiet (fail);go_wp2;go_ret;exact⟨ret_int2 (by rw[←HE.o]),n+nq,by rw[World.drewN_drewN]⟩
   ·have he:k=com a.toList b.toList:=by omega
    have HE:=Hd he;have h5:decide (k<b.size)=false:=by simpa using h2
    clear hs he;go_wp2_with fail;go_quiet (fail);go_wp2;go_ret;exact⟨ret_int2 (by rw[←HE.o]),n+nq,by rw[World.drewN_drewN]⟩
  ·have he:k=com a.toList b.toList:=by omega
   have HE:=Hd he;have h5:decide (k<a.size)=false:=by simpa using h1
   clear hs he;go_wp2_with fail;go_quiet (fail);go_wp2;go_ret;exact⟨ret_int2 (by rw[←HE.o]),n+nq,by rw[World.drewN_drewN]⟩

theorem sep_any(a b s:ByteArray)(w:World)(ha:a.size<=maxLen)(hb:b.size<=maxLen)(hs:sepB a b=s) :
  Calls prog 176 #[.string a,.string b] w λ e w'=>e=.returned (.string s)/\Below w.heap.size w w':=by
 subst hs;have e1:=bytesLess_ltB a.toList b.toList;have hc:=com_lt a.toList b.toList;rw[len_toList] at hc;have ha':=ha;have hb':=hb;unfold maxLen at ha' hb';unfold sepB;cases h:ltB a.toList b.toList
 ·rw[h] at e1
  clear hc h;go_enter func176,ntmps176;go_wp2;go_ret;exact⟨rfl,Below.refl _ _⟩
 ·have hlt:=hc h
  rw[h] at e1;clear hc h;go_enter func176,ntmps176;go_wp2_with (go_at_call 177;refine(common_any _ _ _ ha).mono ?_;rintro e w' ⟨rfl,n,rfl⟩);go_ret;exact⟨rfl,below_drewN (Below.refl _ _) _⟩

theorem separatorAt_leaf(lv:Int)(A:Option Addr)(c:Nat)(hi:ByteArray)(la:Bool)(rt:Nat)(xs:List Sl)(m:Nat)(w:World)(n:Nat)(hn:xs.length=n)(h40:n<=1099511627776)(hR:Rs w A c xs)(x y:Sl)(hm:0<m)(hx:xs[m-1]? = some x)(hy:xs[m]? = some y)(hxs:x.1.size<=maxLen)(hys:y.1.size<=maxLen)(hlv:lv=0)(s:ByteArray)(hs:sepB x.1 y.1=s) :
  Calls prog 165 #[.agg #[int .i64 lv,.slice A n c,.string hi,.bool la,int .u64 rt],int .i64 m] w λ e w'=>e=.returned (.string s)/\Below w.heap.size w w':=by
 subst hlv;obtain⟨P0,B0,Z0⟩:=box_one w (int .i64 0 :: .slice A n c :: .string hi :: .bool la :: int .u64 rt::[]) 64;have hmn:m<n:=by have:=(List.getElem?_eq_some_iff.1 hy).1;omega
 obtain⟨g,off,rfl,hg,hcell⟩:=(hR.below B0 (Nat.le_refl _)).at (by omega);obtain⟨c0,c1⟩:=hcell (m-1) x hx;obtain⟨d0,d1⟩:=hcell m y hy;clear hcell hx hy P0 B0 Z0 hR;have HS:=Hd hs;clear hs;go_enter func165,ntmps165;go_wp2_with fail;refine(sep_any _ _ _ _ hxs hys HS.o).mono ?_;rintro e w1 ⟨rfl,hB1⟩;have hB2:=((Below.refl w.heap.size w).alloc (Nat.le_refl _) _).trans (hB1.mono (by simp));go_wp2;go_ret;exact⟨rfl,hB2⟩
end
end Go.Proofs.YtlkgmnjceghpiaaGreat
