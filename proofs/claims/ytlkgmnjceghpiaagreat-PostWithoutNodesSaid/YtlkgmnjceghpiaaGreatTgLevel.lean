/-
 A View's Level,its pages,of a tree whose nodes have whatever numbers. Condition: a fanout of four to six.
-/
import Derived.Test.YtlkgmnjceghpiaaGreatTgTree
import Derived.Test.YtlkgmnjceghpiaaGreatLkLevel
namespace Go.Proofs.YtlkgmnjceghpiaaGreat
open Go.RowKit Go.Deep Plain
set_option linter.unusedSectionVars false
set_option linter.unusedVariables false
open _root_.Go.Proofs.Tryz
open Go.Value (int)
set_option maxHeartbeats 8000000
set_option maxRecDepth 100000
section
variable [Cf]

def idsG(f:Nat->Nat)(m:Nat):List Nat:=(List.range m).map f
theorem idsG_len(f:Nat->Nat)(m:Nat):(idsG f m).length=m:=by unfold idsG;simp
theorem idsG_at{f:Nat->Nat}{m j:Nat}(h:j<m):(idsG f m)[j]? = some (f j):=by unfold idsG;rw[List.getElem?_map,List.getElem?_range h];rfl
theorem idsG_step(f:Nat->Nat)(j:Nat):idsG f (j+1)=idsG f j++[f j]:=by unfold idsG;rw[List.range_succ,List.map_append];rfl
theorem tpage_anyG(F:Nat)(h4:4<=F)(h6:F<=6)(g n:Nat)(l:List Cel)(hl:l.length=n)(H:Nat)(kk:Nat)(nd:Nat->Nat->Nat)(mm:Nat->Nat)(lo:Nat->Nat->ByteArray)(pg:Nat->Nat->Pg)(T:TrG F l H kk nd mm lo pg)(L i nid:Nat)(hL:L<H)(hi:i<mm L)(hnid:nid=nd L i)(lvv:Nat)(hlv:lvv=L)(w:World)(hv:Blk w g 59 (flat3 l)) :
  Calls prog 38 #[.agg #[int .i64 1,int .i64 2,int .i64 Cf.N,int .i64 Cf.C,int .i64 Cf.R,int .i64 F,int .u64 Cf.K,.slice (some ⟨g,0,none⟩) n n],int .u64 nid] w λ e w'=>∃(A:Option Addr) (c:Nat),e=.returned (.agg #[int .i64 lvv,.slice A (pg L i).xs.length c,.string (pg L i).hi,.bool (pg L i).la,int .u64 ((pg L i).rt:Int)])/\Rs w' A c (pg L i).xs/\(∀ a,A=some a->w.heap.size<=a.block)/\Kept (λ_=>False) w w':=by
 subst hnid hlv;have hall:=T.all hL hi;have hnd:=(T.lev _ hL).nd i hi;have hlv:=(T.lev _ hL).lv i hi;have h100:=T.H100;have hCN2:=Cf.n2;have:=vpage_any F h4 h6 g n l hl (nd lvv i) (by omega) (by omega) (pg lvv i) hnd.holds hnd.wf hnd.len (by omega) w hv;rw[hlv] at this;exact this
theorem tnode_anyG(F:Nat)(h4:4<=F)(h6:F<=6)(g n:Nat)(l:List Cel)(hl:l.length=n)(H:Nat)(kk:Nat)(nd:Nat->Nat->Nat)(mm:Nat->Nat)(lo:Nat->Nat->ByteArray)(pg:Nat->Nat->Pg)(T:TrG F l H kk nd mm lo pg)(L i nid:Nat)(hL:L<H)(hi:i<mm L)(hnid:nid=nd L i)(w:World)(hv:Blk w g 59 (flat3 l)) :
  Calls prog 47 #[.agg #[int .i64 1,int .i64 2,int .i64 Cf.N,int .i64 Cf.C,int .i64 Cf.R,int .i64 F,int .u64 Cf.K,.slice (some ⟨g,0,none⟩) n n],int .u64 nid] w λ e w'=>e=.returned (.bool true)/\Kept (λ_=>False) w w':=by
 subst hnid;have hall:=T.all hL hi;exact vnode_in F h4 h6 g n l hl (nd L i) kk 0 ⟨#[]⟩ (by omega) (by omega) (by omega) w hv T.tot
theorem vlevel_inG(F:Nat)(h4:4<=F)(h6:F<=6)(g n:Nat)(l:List Cel)(hl:l.length=n)(H:Nat)(kk:Nat)(nd:Nat->Nat->Nat)(mm:Nat->Nat)(lo:Nat->Nat->ByteArray)(pg:Nat->Nat->Pg)(T:TrG F l H kk nd mm lo pg)(lvl:Nat)(hlv:lvl<H)(w:World)(hv:Blk w g 59 (flat3 l)) :
  Calls prog 37 #[.agg #[int .i64 1,int .i64 2,int .i64 Cf.N,int .i64 Cf.C,int .i64 Cf.R,int .i64 F,int .u64 Cf.K,.slice (some ⟨g,0,none⟩) n n],int .i64 lvl] w λ e w'=>∃(A:Option Addr) (c:Nat),e=.returned (.slice A (mm lvl) c)/\(0<mm lvl->∃ g off,A=some ⟨g,off,none⟩/\g<w'.heap.size/\w.heap.size<=g/\∀(i p:Nat),(idsG (nd lvl) (mm lvl))[i]? = some p->w'.cell? ⟨g,off+i,none⟩=some (int .u64 p))/\Kept (λ_=>False) w w':=by
 obtain⟨i0,hi0,hz0,hz1,hz2⟩:=info_parts infoU64;have HI0:=Hd hi0;have HI1:=Hd hz0;have HI2:=Hd hz1;have HI3:=Hd hz2;clear hi0 hz0 hz1 hz2;have HV:=Hd hv;have hH1:=T.H1;have hH100:=T.H100;have hCN2:=Cf.n2;have hfd:=field0 (nd (H-1) 0:Int) 0 ⟨#[]⟩;clear hv;go_enter func37,ntmps37;go_wp2_with fail;have hal:=(Kept.refl (λ_=>False) w).alloc (.cells #[int .i64 1,int .i64 2,int .i64 Cf.N,int .i64 Cf.C,int .i64 Cf.R,int .i64 F,int .u64 Cf.K,.slice (some ⟨g,0,none⟩) n n] 36);have HB:=Hd (Blk.new w [int .i64 1,int .i64 2,int .i64 Cf.N,int .i64 Cf.C,int .i64 Cf.R,int .i64 F,int .u64 Cf.K,.slice (some ⟨g,0,none⟩) n n] 36);replace HV:=Hd (hal.blk HV.o id);have HK:=Hd hal;clear hal;generalize w.heap.size=r0 at HB ⊢;generalize w.alloc (.cells #[int .i64 1,int .i64 2,int .i64 Cf.N,int .i64 Cf.C,int .i64 Cf.R,int .i64 F,int .u64 Cf.K,.slice (some ⟨g,0,none⟩) n n] 36)=W at *;refine(vat_any F h4 h6 g n l hl 0 (nd (H-1) 0:Int) 0 ⟨#[]⟩ _ HV.o T.root).mono ?_;rintro e w1 ⟨rfl,hK1⟩;replace HB:=Hd (hK1.blk HB.o id);replace HV:=Hd (hK1.blk HV.o id);replace HK:=Hd (HK.o.trans hK1 kk2);clear hK1;go_wp2_with fail;go_loopw [5,6] (λ nv kv wr=>∃ k cur:Nat,cur+k+1=H/\(lvl<=cur\/k=0)/\kv=int .i64 k/\nv=int .u64 ((nd cur 0:Nat):Int)/\Blk wr r0 36 [int .i64 1,int .i64 2,int .i64 Cf.N,int .i64 Cf.C,int .i64 Cf.R,int .i64 F,int .u64 Cf.K,.slice (some ⟨g,0,none⟩) n n]/\Blk wr g 59 (flat3 l)/\Kept (λ_=>False) w wr) (λ_ kv _=>H-(intOf kv).toNat)
 case atStart=>exact⟨0,H-1,by omega,.inr rfl,rfl,rfl,HB.o,HV.o,HK.o⟩
 case round =>
  obtain⟨k,cur,hck,hor,rfl,rfl,hB,hV,hK⟩:=hrel;replace HB:=Hd hB;replace HV:=Hd hV;replace HK:=Hd hK;have HOR:=Hd hor;have hcur:cur<H:=by omega
  have hk100:(k:Int)<=Cf.N:=by omega
  clear hB hV hK hor;obtain⟨x0,x1,x2,x3,x4,x5,x6,x7⟩:=(HB.o).c8;go_wp2_with fail;refine(tnode_anyG F h4 h6 g n l hl H kk nd mm lo pg T cur 0 (nd cur 0) (by omega) (T.lev cur (by omega)).pos rfl _ HV.o).mono ?_;rintro e wa ⟨rfl,hKa⟩;clear x0 x1 x2 x3 x4 x5 x6 x7;replace HB:=Hd (hKa.blk HB.o id);replace HV:=Hd (hKa.blk HV.o id);replace HK:=Hd (HK.o.trans hKa kk2);clear hKa;obtain⟨x0,x1,x2,x3,x4,x5,x6,x7⟩:=(HB.o).c8;go_wp2_with fail;refine(tpage_anyG F h4 h6 g n l hl H kk nd mm lo pg T cur 0 (nd cur 0) (by omega) (T.lev cur (by omega)).pos rfl cur rfl _ HV.o).mono ?_;rintro e wb ⟨A1,c1,rfl, -, -,hKb⟩;have hpf:=pfield0 (cur:Int) A1 (pg cur 0).xs.length c1 (pg cur 0).hi (pg cur 0).la ((pg cur 0).rt:Int);clear x0 x1 x2 x3 x4 x5 x6 x7;replace HB:=Hd (hKb.blk HB.o id);replace HV:=Hd (hKb.blk HV.o id);replace HK:=Hd (HK.o.trans hKb kk2);clear hKb
  by_cases hgt:lvl<cur
  ·have d1:(lvl:Int)<(cur:Int):=by omega
   obtain⟨c0,hc0⟩:∃ c0,cur=c0+1:=⟨cur-1,by omega⟩;have HC0:=Hd hc0;have hf:=T.first (L:=c0) (by omega)
   rw[←hc0] at hf;have hc0l:c0+k+2<=H/\H<=c0+k+2/\lvl<=c0:=by omega
   clear hc0;obtain⟨x0,x1,x2,x3,x4,x5,x6,x7⟩:=(HB.o).c8;go_wp2_with fail;refine(tpage_anyG F h4 h6 g n l hl H kk nd mm lo pg T cur 0 (nd cur 0) (by omega) (T.lev cur (by omega)).pos rfl cur rfl _ HV.o).mono ?_;rintro e wc ⟨A2,c2,rfl,hR2, -,hKc⟩;have hpos:=(List.getElem?_eq_some_iff.1 hf).1;obtain⟨g2,o2,rfl,hg2,hc2⟩:=hR2.at hpos;have href:=(hc2 0 _ hf).2;rw[Nat.zero_mul,Nat.add_zero] at href;obtain⟨xl,hxl⟩:∃ xl,(pg cur 0).xs.length=xl:=⟨_,rfl⟩;rw[hxl] at hpos ⊢;have hxl0:((xl:Int)==0)=false:=beq_false_of_ne (by omega);have hxlp:(0:Int)<(xl:Int):=by omega
   clear x0 x1 x2 x3 x4 x5 x6 x7;replace HB:=Hd (hKc.blk HB.o id);replace HV:=Hd (hKc.blk HV.o id);replace HK:=Hd (HK.o.trans hKc kk2);clear hKc;clear hR2 hf hc2 hpf hxl;have hal:=(Kept.refl (λ_=>False) wc).alloc (.cells #[int .i64 cur,.slice (some ⟨g2,o2,none⟩) xl c2,.string (pg cur 0).hi,.bool (pg cur 0).la,int .u64 ((pg cur 0).rt:Int)] 64);replace HB:=Hd (hal.blk HB.o id);replace HV:=Hd (hal.blk HV.o id);replace HK:=Hd (HK.o.trans hal kk2);clear hal;go_wp2;go_roundw
   case rel=>exact⟨k+1,c0,by omega,.inl (by omega),by go_num,rfl,HB.o,HV.o,HK.o⟩
   case measure=>simp[intOf];omega
  ·have d1:¬ (lvl:Int)<(cur:Int):=by omega
   obtain rfl:cur=lvl:=by have:=HOR.o;omega
   rename World=>V0;go_wp2_with fail;go_loopw [5,8] (λ nv ov wr=>∃ j:Nat,j<=mm cur/\nv=int .u64 (((if j<mm cur then nd cur j else 0):Nat):Int)/\slLen ov=j/\wr.ownsRow V0.heap.size 23 1 ov j (wds (idsG (nd cur) j))/\Below V0.heap.size V0 wr) (λ_ ov _=>mm cur-slLen ov)
   case atStart=>exact⟨0,Nat.zero_le _,by rw[if_pos (show 0<mm cur from(T.lev cur hcur).pos)],rfl,World.ownsRow_nil _ _ _ _,Below.refl _ _⟩
   case round =>
    obtain⟨j,hj,rfl,hsl,hO,hBl⟩:=hrel;have HO:=Hd hO;have HBl:=Hd hBl;have hzr:=hBl.size;have hbr:=HB.o.below hBl HB.o.lt;have hvr:=HV.o.below hBl HV.o.lt;obtain⟨A0,c0',rfl, -⟩:=words_read hO;have hm100:mm cur<=Cf.N:=by have:=(T.lev cur hcur).top;omega
    clear hO hBl hsl;have HBr:=Hd hbr;have HVr:=Hd hvr;obtain⟨x0,x1,x2,x3,x4,x5,x6,x7⟩:=hbr.c8;clear hbr hvr
    by_cases hjm:j<mm cur
    ·rw[if_pos hjm]
     obtain⟨nid,hnid⟩:∃ nid,nd cur j=nid:=⟨_,rfl⟩;rw[hnid];have HNI:=Hd hnid;have dj:(j:Int)<(Cf.N:Int):=by omega
     clear hnid;go_wp2_with fail;refine(tnode_anyG F h4 h6 g n l hl H kk nd mm lo pg T cur j nid hcur hjm HNI.o.symm _ HVr.o).mono ?_;rintro e wc ⟨rfl,hKc⟩;clear x0 x1 x2 x3 x4 x5 x6 x7;replace HBr:=Hd (hKc.blk HBr.o id);replace HVr:=Hd (hKc.blk HVr.o id);replace HO:=Hd (own_below HO.o (hKc.below (Nat.le_refl _) (λ_ h=>h.elim)) (Nat.le_refl _));replace HBl:=Hd (HBl.o.trans ((hKc.below (Nat.le_refl _) (λ_ h=>h.elim)).mono hzr));replace hzr:=Nat.le_trans hzr hKc.size;clear hKc;obtain⟨x0,x1,x2,x3,x4,x5,x6,x7⟩:=(HBr.o).c8;go_wp2_with fail;refine(tpage_anyG F h4 h6 g n l hl H kk nd mm lo pg T cur j nid hcur hjm HNI.o.symm cur rfl _ HVr.o).mono ?_;rintro e wd ⟨A3,c3,rfl, -, -,hKd⟩;have hpf3:=pfield0 (cur:Int) A3 (pg cur j).xs.length c3 (pg cur j).hi (pg cur j).la ((pg cur j).rt:Int);clear x0 x1 x2 x3 x4 x5 x6 x7;replace HBr:=Hd (hKd.blk HBr.o id);replace HVr:=Hd (hKd.blk HVr.o id);replace HO:=Hd (own_below HO.o (hKd.below (Nat.le_refl _) (λ_ h=>h.elim)) (Nat.le_refl _));replace HBl:=Hd (HBl.o.trans ((hKd.below (Nat.le_refl _) (λ_ h=>h.elim)).mono hzr));replace hzr:=Nat.le_trans hzr hKd.size;clear hKd;obtain⟨x0,x1,x2,x3,x4,x5,x6,x7⟩:=(HBr.o).c8;have hown:=HO.o;go_wp2_with (at_builtin;go_must (refine wpList_append_own _ rfl (.tmp 63) (.tmp 65) 54 rfl V0.heap.size 23 i0 _ 1 8 Tryz.underlying54 HI0.o HI1.o HI2.o HI3.o rfl (by decide) _ _ _ rfl (hown.alloc _) ⟨wd.heap.size,0,none⟩ 1 1 [int .u64 nid] rfl rfl ?a1 ?b1 ?c1 ?d1 ?e1 ?_))
     try case a1 =>
      intro q u hu
      match q,hu with
      | 0,hu=>simp at hu;subst hu;simp[Addr.add]
      | q+1,hu=>simp at hu
     case b1=>first|exact rfl|(intro u hu;simp at hu;subst hu;rfl)
     case c1=>unfold maxLen;omega
     case d1=>omega
     case e1=>first|omega|(simp;omega)
     intro v1 we hown1 hgr1 _;have hal:=(Below.refl wd.heap.size wd).alloc (Nat.le_refl _) (.cells #[int .u64 nid] 23);have hBe:=Below.grown (hal.mono hzr) hgr1 (by rw[nblk_alloc];omega) λ q hq=>(hown.lt q hq).1;replace HBl:=Hd (HBl.o.trans hBe);have hO1:we.ownsRow V0.heap.size 23 1 v1 (j+1) (wds (idsG (nd cur) (j+1))):=by
      have e:wds (idsG (nd cur) (j+1))=wds (idsG (nd cur) j)++[int .u64 nid]:=by rw[idsG_step,HNI.o];unfold wds;rw[List.map_append];rfl
      rw[e];exact hown1
     replace HO:=Hd hO1;obtain⟨A4,c4,rfl, -⟩:=words_read hO1;replace hzr:=Nat.le_trans hzr hBe.size;replace HBr:=Hd (HBr.o.below hBe (by have:=HB.o.lt;omega));replace HVr:=Hd (HVr.o.below hBe (by have:=HV.o.lt;omega));clear hown1 hgr1 hal hBe hO1 hown x0 x1 x2 x3 x4 x5 x6 x7;obtain⟨x0,x1,x2,x3,x4,x5,x6,x7⟩:=(HBr.o).c8;go_wp2_with fail;refine(tpage_anyG F h4 h6 g n l hl H kk nd mm lo pg T cur j nid hcur hjm HNI.o.symm cur rfl _ HVr.o).mono ?_;rintro e wf ⟨A5,c5,rfl, -, -,hKf⟩;have hpf5:=pfield4 (cur:Int) A5 (pg cur j).xs.length c5 (pg cur j).hi (pg cur j).la ((pg cur j).rt:Int);have hrt:(pg cur j).rt=if j+1<mm cur then nd cur (j+1) else 0:=by
      by_cases h:j+1<mm cur
      ·rw[if_pos h,((T.lev cur hcur).next j h).2.1]
      ·rw[if_neg h,((T.lev cur hcur).last j (by omega)).2]
     have HRT:=Hd hrt;clear x0 x1 x2 x3 x4 x5 x6 x7;replace HBr:=Hd (hKf.blk HBr.o id);replace HVr:=Hd (hKf.blk HVr.o id);replace HO:=Hd (own_below HO.o (hKf.below (Nat.le_refl _) (λ_ h=>h.elim)) (Nat.le_refl _));replace HBl:=Hd (HBl.o.trans ((hKf.below (Nat.le_refl _) (λ_ h=>h.elim)).mono hzr));replace hzr:=Nat.le_trans hzr hKf.size;clear hKf;obtain⟨x0,x1,x2,x3,x4,x5,x6,x7⟩:=(HBr.o).c8;clear hrt;go_wp2;go_roundw
     case rel=>exact⟨j+1,by omega,by rw[HRT.o],rfl,HO.o,HBl.o⟩
     case measure=>simp[slLen];omega
    ·obtain hje:j=mm cur:=by omega
     rw[if_neg hjm];have HJE:=Hd hje;clear hje;go_wp2_with fail;refine(vnode_zero F h4 h6 g n l hl 0 kk 0 ⟨#[]⟩ rfl _ HVr.o T.tot).mono ?_;rintro e wc ⟨rfl,hKc⟩;have hKz:=(HK.o.trans (Below.kept HBl.o (S:=λ_=>False) (λ i hi h=>by omega)) kk2).trans hKc kk2;have HKz:=Hd hKz;have HOz:=Hd (own_kept HO.o hKc kk2);have hV0:=HK.o.size;clear hKz hKc;go_wp2;go_ret;rw[HJE.o] at HOz;obtain⟨A6,c6,he6,hR6⟩:=words_read HOz.o;cases he6;refine⟨A0,c0',by rw[HJE.o];rfl,λ hp=>?_,HKz.o⟩;obtain⟨g7,o7,e7,hg7,hb7,hc7⟩:=hR6 (by rw[idsG_len];exact hp);exact⟨g7,o7,e7,hg7,by omega,λ q p hq=>hc7 q p hq⟩

theorem vlevel_outG(F:Nat)(h4:4<=F)(h6:F<=6)(g n:Nat)(l:List Cel)(hl:l.length=n)(H:Nat)(kk:Nat)(nd:Nat->Nat->Nat)(mm:Nat->Nat)(lo:Nat->Nat->ByteArray)(pg:Nat->Nat->Pg)(T:TrG F l H kk nd mm lo pg)(lvl:Nat)(hlv:H<=lvl)(hlb:lvl<=1000)(w:World)(hv:Blk w g 59 (flat3 l)) :
  Calls prog 37 #[.agg #[int .i64 1,int .i64 2,int .i64 Cf.N,int .i64 Cf.C,int .i64 Cf.R,int .i64 F,int .u64 Cf.K,.slice (some ⟨g,0,none⟩) n n],int .i64 lvl] w λ e w'=>e=.returned (.slice none 0 0)/\Kept (λ_=>False) w w':=by
 have HV:=Hd hv;have hH1:=T.H1;have hH100:=T.H100;have hCN2:=Cf.n2;have hfd:=field0 (nd (H-1) 0:Int) 0 ⟨#[]⟩;clear hv;go_enter func37,ntmps37;go_wp2_with fail;have hal:=(Kept.refl (λ_=>False) w).alloc (.cells #[int .i64 1,int .i64 2,int .i64 Cf.N,int .i64 Cf.C,int .i64 Cf.R,int .i64 F,int .u64 Cf.K,.slice (some ⟨g,0,none⟩) n n] 36);have HB:=Hd (Blk.new w [int .i64 1,int .i64 2,int .i64 Cf.N,int .i64 Cf.C,int .i64 Cf.R,int .i64 F,int .u64 Cf.K,.slice (some ⟨g,0,none⟩) n n] 36);replace HV:=Hd (hal.blk HV.o id);have HK:=Hd hal;clear hal;generalize w.heap.size=r0 at HB ⊢;generalize w.alloc (.cells #[int .i64 1,int .i64 2,int .i64 Cf.N,int .i64 Cf.C,int .i64 Cf.R,int .i64 F,int .u64 Cf.K,.slice (some ⟨g,0,none⟩) n n] 36)=W at *;refine(vat_any F h4 h6 g n l hl 0 (nd (H-1) 0:Int) 0 ⟨#[]⟩ _ HV.o T.root).mono ?_;rintro e w1 ⟨rfl,hK1⟩;replace HB:=Hd (hK1.blk HB.o id);replace HV:=Hd (hK1.blk HV.o id);replace HK:=Hd (HK.o.trans hK1 kk2);clear hK1;go_wp2_with fail;go_loopw [5,6] (λ nv kv wr=>∃ k cur:Nat,cur+k+1=H/\(lvl<=cur\/k=0)/\kv=int .i64 k/\nv=int .u64 ((nd cur 0:Nat):Int)/\Blk wr r0 36 [int .i64 1,int .i64 2,int .i64 Cf.N,int .i64 Cf.C,int .i64 Cf.R,int .i64 F,int .u64 Cf.K,.slice (some ⟨g,0,none⟩) n n]/\Blk wr g 59 (flat3 l)/\Kept (λ_=>False) w wr) (λ_ kv _=>H-(intOf kv).toNat)
 case atStart=>exact⟨0,H-1,by omega,.inr rfl,rfl,rfl,HB.o,HV.o,HK.o⟩
 case round =>
  obtain⟨k,cur,hck,hor,rfl,rfl,hB,hV,hK⟩:=hrel;replace HB:=Hd hB;replace HV:=Hd hV;replace HK:=Hd hK;have HOR:=Hd hor;have hcur:cur<H:=by omega
  have hk100:(k:Int)<=Cf.N:=by omega
  clear hB hV hK hor;obtain⟨x0,x1,x2,x3,x4,x5,x6,x7⟩:=(HB.o).c8;go_wp2_with fail;refine(tnode_anyG F h4 h6 g n l hl H kk nd mm lo pg T cur 0 (nd cur 0) (by omega) (T.lev cur (by omega)).pos rfl _ HV.o).mono ?_;rintro e wa ⟨rfl,hKa⟩;clear x0 x1 x2 x3 x4 x5 x6 x7;replace HB:=Hd (hKa.blk HB.o id);replace HV:=Hd (hKa.blk HV.o id);replace HK:=Hd (HK.o.trans hKa kk2);clear hKa;obtain⟨x0,x1,x2,x3,x4,x5,x6,x7⟩:=(HB.o).c8;go_wp2_with fail;refine(tpage_anyG F h4 h6 g n l hl H kk nd mm lo pg T cur 0 (nd cur 0) (by omega) (T.lev cur (by omega)).pos rfl cur rfl _ HV.o).mono ?_;rintro e wb ⟨A1,c1,rfl, -, -,hKb⟩;have hpf:=pfield0 (cur:Int) A1 (pg cur 0).xs.length c1 (pg cur 0).hi (pg cur 0).la ((pg cur 0).rt:Int);clear x0 x1 x2 x3 x4 x5 x6 x7;replace HB:=Hd (hKb.blk HB.o id);replace HV:=Hd (hKb.blk HV.o id);replace HK:=Hd (HK.o.trans hKb kk2);clear hKb
  by_cases hgt:lvl<cur
  ·exact absurd hgt (by omega)
  ·have d1:¬ (lvl:Int)<(cur:Int):=by omega
   have HCE:=Hd (show cur=H-1 by have:=HOR.o;omega);have hcl:cur<lvl:=by have:=HOR.o;omega
   rename World=>V0;go_wp2_with fail;go_loopw [5,8] (λ nv ov wr=>nv=int .u64 ((nd cur 0:Nat):Int)/\ov=.slice none 0 0/\Blk wr r0 36 [int .i64 1,int .i64 2,int .i64 Cf.N,int .i64 Cf.C,int .i64 Cf.R,int .i64 F,int .u64 Cf.K,.slice (some ⟨g,0,none⟩) n n]/\Blk wr g 59 (flat3 l)/\Kept (λ_=>False) w wr) (λ_ _ _=>0)
   case atStart=>exact⟨rfl,rfl,HB.o,HV.o,HK.o⟩
   case round =>
    obtain⟨rfl,rfl,hB,hV,hK⟩:=hrel;replace HB:=Hd hB;replace HV:=Hd hV;replace HK:=Hd hK;clear hB hV hK hpf;obtain⟨x0,x1,x2,x3,x4,x5,x6,x7⟩:=(HB.o).c8;go_wp2_with fail;refine(tnode_anyG F h4 h6 g n l hl H kk nd mm lo pg T cur 0 (nd cur 0) (by omega) (T.lev cur (by omega)).pos rfl _ HV.o).mono ?_;rintro e wa ⟨rfl,hKa⟩;clear x0 x1 x2 x3 x4 x5 x6 x7;replace HB:=Hd (hKa.blk HB.o id);replace HV:=Hd (hKa.blk HV.o id);replace HK:=Hd (HK.o.trans hKa kk2);clear hKa;obtain⟨x0,x1,x2,x3,x4,x5,x6,x7⟩:=(HB.o).c8;go_wp2_with fail;refine(tpage_anyG F h4 h6 g n l hl H kk nd mm lo pg T cur 0 (nd cur 0) (by omega) (T.lev cur (by omega)).pos rfl cur rfl _ HV.o).mono ?_;rintro e wb ⟨A1,c1,rfl, -, -,hKb⟩;have hpf:=pfield0 (cur:Int) A1 (pg cur 0).xs.length c1 (pg cur 0).hi (pg cur 0).la ((pg cur 0).rt:Int);clear x0 x1 x2 x3 x4 x5 x6 x7;replace HB:=Hd (hKb.blk HB.o id);replace HV:=Hd (hKb.blk HV.o id);replace HK:=Hd (HK.o.trans hKb kk2);clear hKb;have dne:((cur:Int)==(lvl:Int))=false:=beq_false_of_ne (by omega);go_wp2;go_ret;exact⟨rfl,HK.o⟩
end
end Go.Proofs.YtlkgmnjceghpiaaGreat
