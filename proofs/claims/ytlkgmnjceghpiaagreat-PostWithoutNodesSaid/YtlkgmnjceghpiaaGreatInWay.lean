/-
 Package insert: the rest of what an Insert answers. Condition: none.
-/
import Derived.Test.YtlkgmnjceghpiaaGreatInRun
import Derived.Test.YtlkgmnjceghpiaaGreatInIns
import Derived.Test.YtlkgmnjceghpiaaGreatLkTreeL
namespace Go.Proofs.YtlkgmnjceghpiaaGreat
set_option maxHeartbeats 8000000
set_option maxRecDepth 100000
open Go.RowKit Go.Deep Plain
set_option linter.unusedVariables false
set_option linter.unusedSectionVars false

section
open Go.RowKit Go.Deep Plain
variable [Cf]
set_option linter.unusedVariables false
set_option linter.unusedSectionVars false

theorem is_leftF(F:Nat)(N fb fd:Int)(i id wd:Nat)(P X:Pg)(m:Nat)(sp:ByteArray)(lim:Nat)(Z:Nat->Prop)(w:World)(h:IAt Z w F N fb fd i id wd P X m sp lim .ful)(hlen:P.xs.length<=1000) :
  Calls Tryz.prog 93 #[.pointer (some ⟨i,0,none⟩)] w λ e w'=>∃ A4 c4,e=.returned (.agg #[.int .u64 id,.int .u64 wd,.int .i64 P.lv,.slice A4 P.xs.length c4,.string P.hi,.bool P.la,.int .u64 P.rt])/\Rs w' A4 c4 P.xs/\(∀ a,A4=some a->w.heap.size<=a.block)/\Kept (λ_=>False) w w':=by
 cases h with
 | ful h hi hR hA =>
  rename_i tk fr wp A c A2 c2 s0
  obtain⟨s,hs⟩:∃ s,w.heap.size=s:=⟨_,rfl⟩;have hi0:=h;go_enter Tryz.func93,Tryz.ntmps93;go_upto_region 1 with fail
  have hk0:=(Kept.refl (λ_=>False) w).alloc (.cells #[.int .u64 0,.int .u64 0,.int .i64 0,.slice none 0 0,.string ⟨#[]⟩,.bool false,.int .u64 0] 127);have HS1:=Hd (Blk.new w [.int .u64 0,.int .u64 0,.int .i64 0,.slice none 0 0,.string ⟨#[]⟩,.bool false,.int .u64 0] 127);have HSS:=Hd (show s=w.heap.size from hs.symm);replace hi0:=hk0.blk hi0 (λ h=>h);have hR1:=Hd (hR.keptF hk0 kk2);clear hR hA;rw[hs] at HS1;have HSZ:=Hd (show s<(w.alloc (.cells #[.int .u64 0,.int .u64 0,.int .i64 0,.slice none 0 0,.string ⟨#[]⟩,.bool false,.int .u64 0] 127)).heap.size from HS1.o.lt);generalize w.alloc (.cells #[.int .u64 0,.int .u64 0,.int .i64 0,.slice none 0 0,.string ⟨#[]⟩,.bool false,.int .u64 0] 127)=w1 at *;have HK:=Hd hk0;have x22:=hi0.k 22 rfl;have x10:=hi0.k 10 rfl;have x11:=hi0.k 11 rfl;have x12:=hi0.k 12 rfl;have x13:=hi0.k 13 rfl;have x14:=hi0.k 14 rfl;have x15:=hi0.k 15 rfl;have x16:=hi0.k 16 rfl;clear hk0 hi0 h hs;go_wp2_with fail;refine(icopied_any id wd P A c _ hlen hR1.out).mono ?_;rintro e w2 ⟨A4,c4,rfl,hR4,hA4,hK4⟩;have HR4:=Hd hR4;have HA4:=Hd (show ∀ a,A4=some a->s<a.block from λ a ha=>by have h1:=hA4 a ha;have h2:=HSZ.o;omega);replace HS1:=Hd (hK4.blk HS1.o (λ h=>h));replace HK:=Hd (HK.o.trans hK4 kk2);clear hR4 hA4 hK4 x22 x10 x11 x12 x13 x14 x15 x16 hR1;have hs1:=HS1.o;obtain⟨y0,y1,y2,y3,y4,y5,y6⟩:=hs1.c7;have z0:=hs1.frozen 0;have z1:=hs1.frozen 1;have z2:=hs1.frozen 2;have z3:=hs1.frozen 3;have z4:=hs1.frozen 4;have z5:=hs1.frozen 5;have z6:=hs1.frozen 6;clear hs1;go_wp2;have hks:=(((((((Kept.refl (λ k=>k=s) w2).setCell (a:=⟨s,0,none⟩) (λ_=>rfl) (.int .u64 id)).setCell (a:=⟨s,1,none⟩) (λ_=>rfl) (.int .u64 wd)).setCell (a:=⟨s,2,none⟩) (λ_=>rfl) (.int .i64 P.lv)).setCell (a:=⟨s,3,none⟩) (λ_=>rfl) (.slice A4 P.xs.length c4)).setCell (a:=⟨s,4,none⟩) (λ_=>rfl) (.string P.hi)).setCell (a:=⟨s,5,none⟩) (λ_=>rfl) (.bool P.la)).setCell (a:=⟨s,6,none⟩) (λ_=>rfl) (.int .u64 P.rt);have hb0:=(((((((HS1.o).set 0 (.int .u64 id)).set 1 (.int .u64 wd)).set 2 (.int .i64 P.lv)).set 3 (.slice A4 P.xs.length c4)).set 4 (.string P.hi)).set 5 (.bool P.la)).set 6 (.int .u64 P.rt);clear y0 z0 y1 z1 y2 z2 y3 z3 y4 z4 y5 z5 y6 z6 HS1;generalize (((((((w2).setCell ⟨s,0,none⟩ (.int .u64 id)).setCell ⟨s,1,none⟩ (.int .u64 wd)).setCell ⟨s,2,none⟩ (.int .i64 P.lv)).setCell ⟨s,3,none⟩ (.slice A4 P.xs.length c4)).setCell ⟨s,4,none⟩ (.string P.hi)).setCell ⟨s,5,none⟩ (.bool P.la)).setCell ⟨s,6,none⟩ (.int .u64 P.rt)=w3 at *;have hb:Blk w3 s 127 [.int .u64 id,.int .u64 wd,.int .i64 P.lv,.slice A4 P.xs.length c4,.string P.hi,.bool P.la,.int .u64 P.rt]:=hb0;clear hb0;have HF:=Hd (show Rs w3 A4 c4 P.xs/\(∀ a,A4=some a->w.heap.size<=a.block)/\Kept (λ_=>False) w w3 from⟨HR4.o.keptF hks (λ a ha h=>by have h1:=HA4.o a ha;have h2:=HSS.o;omega),λ a ha=>by have h1:=HA4.o a ha;have h2:=HSS.o;omega,HK.o.trans hks (λ i hi h=>by have h2:=HSS.o;omega)⟩);clear hks HR4 HK HA4;obtain⟨q0,q1,q2,q3,q4,q5,q6⟩:=hb.c7;clear hb;refine bodyPost_ret (v:=.agg #[.int .u64 id,.int .u64 wd,.int .i64 P.lv,.slice A4 P.xs.length c4,.string P.hi,.bool P.la,.int .u64 P.rt]) (by simp[results,Tryz.results93,go_sem,q0,q1,q2,q3,q4,q5,q6]) rfl ⟨A4,c4,rfl,HF.o⟩

theorem is_rightF(F:Nat)(N fb fd:Int)(i id wd:Nat)(P X:Pg)(m:Nat)(sp:ByteArray)(lim:Nat)(Z:Nat->Prop)(w:World)(h:IAt Z w F N fb fd i id wd P X m sp lim .ful) :
  Calls Tryz.prog 94 #[.pointer (some ⟨i,0,none⟩)] w λ e w'=>e=.returned (.agg #[.int .u64 0,.int .u64 0,.int .i64 0,.slice none 0 0,.string ⟨#[]⟩,.bool false,.int .u64 0])/\Kept (λ_=>False) w w':=by
 cases h with
 | ful h hi hR hA =>
  rename_i tk fr wp A c A2 c2 s0
  obtain⟨s,hs⟩:∃ s,w.heap.size=s:=⟨_,rfl⟩;have hi0:=h;go_enter Tryz.func94,Tryz.ntmps94;go_upto_region 1 with fail
  have hk0:=(Kept.refl (λ_=>False) w).alloc (.cells #[.int .u64 0,.int .u64 0,.int .i64 0,.slice none 0 0,.string ⟨#[]⟩,.bool false,.int .u64 0] 127);have HS1:=Hd (Blk.new w [.int .u64 0,.int .u64 0,.int .i64 0,.slice none 0 0,.string ⟨#[]⟩,.bool false,.int .u64 0] 127);have HSS:=Hd (show s=w.heap.size from hs.symm);replace hi0:=hk0.blk hi0 (λ h=>h);rw[hs] at HS1;have HSZ:=Hd (show s<(w.alloc (.cells #[.int .u64 0,.int .u64 0,.int .i64 0,.slice none 0 0,.string ⟨#[]⟩,.bool false,.int .u64 0] 127)).heap.size from HS1.o.lt);generalize w.alloc (.cells #[.int .u64 0,.int .u64 0,.int .i64 0,.slice none 0 0,.string ⟨#[]⟩,.bool false,.int .u64 0] 127)=w1 at *;have HK:=Hd hk0;have x22:=hi0.k 22 rfl;have x24:=hi0.k 24 rfl;clear hk0 hi0 h hs;have hs1:=HS1.o;obtain⟨y0,y1,y2,y3,y4,y5,y6⟩:=hs1.c7;have z0:=hs1.frozen 0;have z1:=hs1.frozen 1;have z2:=hs1.frozen 2;have z3:=hs1.frozen 3;have z4:=hs1.frozen 4;have z5:=hs1.frozen 5;have z6:=hs1.frozen 6;clear hs1;go_wp2;have hks:=(((((((Kept.refl (λ k=>k=s) w1).setCell (a:=⟨s,0,none⟩) (λ_=>rfl) (.int .u64 0)).setCell (a:=⟨s,1,none⟩) (λ_=>rfl) (.int .u64 0)).setCell (a:=⟨s,2,none⟩) (λ_=>rfl) (.int .i64 0)).setCell (a:=⟨s,3,none⟩) (λ_=>rfl) (.slice none 0 0)).setCell (a:=⟨s,4,none⟩) (λ_=>rfl) (.string ⟨#[]⟩)).setCell (a:=⟨s,5,none⟩) (λ_=>rfl) (.bool false)).setCell (a:=⟨s,6,none⟩) (λ_=>rfl) (.int .u64 0);have hb0:=(((((((HS1.o).set 0 (.int .u64 0)).set 1 (.int .u64 0)).set 2 (.int .i64 0)).set 3 (.slice none 0 0)).set 4 (.string ⟨#[]⟩)).set 5 (.bool false)).set 6 (.int .u64 0);clear y0 z0 y1 z1 y2 z2 y3 z3 y4 z4 y5 z5 y6 z6 HS1;generalize (((((((w1).setCell ⟨s,0,none⟩ (.int .u64 0)).setCell ⟨s,1,none⟩ (.int .u64 0)).setCell ⟨s,2,none⟩ (.int .i64 0)).setCell ⟨s,3,none⟩ (.slice none 0 0)).setCell ⟨s,4,none⟩ (.string ⟨#[]⟩)).setCell ⟨s,5,none⟩ (.bool false)).setCell ⟨s,6,none⟩ (.int .u64 0)=w3 at *;have hb:Blk w3 s 127 [.int .u64 0,.int .u64 0,.int .i64 0,.slice none 0 0,.string ⟨#[]⟩,.bool false,.int .u64 0]:=hb0;clear hb0;have HF:=Hd (show Kept (λ_=>False) w w3 from HK.o.trans hks (λ i hi h=>by have h2:=HSS.o;omega));clear hks HK;obtain⟨q0,q1,q2,q3,q4,q5,q6⟩:=hb.c7;clear hb;refine bodyPost_ret (v:=.agg #[.int .u64 0,.int .u64 0,.int .i64 0,.slice none 0 0,.string ⟨#[]⟩,.bool false,.int .u64 0]) (by simp[results,Tryz.results94,go_sem,q0,q1,q2,q3,q4,q5,q6]) rfl ⟨rfl,HF.o⟩

theorem is_right0(F:Nat)(N fb fd:Int)(i id wd:Nat)(P X:Pg)(m:Nat)(sp:ByteArray)(lim:Nat)(Z:Nat->Prop)(w:World)(h:IAt Z w F N fb fd i id wd P X m sp lim (.don none)) :
  Calls Tryz.prog 94 #[.pointer (some ⟨i,0,none⟩)] w λ e w'=>e=.returned (.agg #[.int .u64 0,.int .u64 0,.int .i64 0,.slice none 0 0,.string ⟨#[]⟩,.bool false,.int .u64 0])/\Kept (λ_=>False) w w':=by
 cases h with
 | don0 h hw hi hz =>
  rename_i q2 tk Zw A c A2 c2
  obtain⟨s,hs⟩:∃ s,w.heap.size=s:=⟨_,rfl⟩;have hi0:=h;go_enter Tryz.func94,Tryz.ntmps94;go_upto_region 1 with fail
  have hk0:=(Kept.refl (λ_=>False) w).alloc (.cells #[.int .u64 0,.int .u64 0,.int .i64 0,.slice none 0 0,.string ⟨#[]⟩,.bool false,.int .u64 0] 127);have HS1:=Hd (Blk.new w [.int .u64 0,.int .u64 0,.int .i64 0,.slice none 0 0,.string ⟨#[]⟩,.bool false,.int .u64 0] 127);have HSS:=Hd (show s=w.heap.size from hs.symm);replace hi0:=hk0.blk hi0 (λ h=>h);rw[hs] at HS1;have HSZ:=Hd (show s<(w.alloc (.cells #[.int .u64 0,.int .u64 0,.int .i64 0,.slice none 0 0,.string ⟨#[]⟩,.bool false,.int .u64 0] 127)).heap.size from HS1.o.lt);generalize w.alloc (.cells #[.int .u64 0,.int .u64 0,.int .i64 0,.slice none 0 0,.string ⟨#[]⟩,.bool false,.int .u64 0] 127)=w1 at *;have HK:=Hd hk0;have x22:=hi0.k 22 rfl;have x24:=hi0.k 24 rfl;clear hk0 hi0 h hs;have hs1:=HS1.o;obtain⟨y0,y1,y2,y3,y4,y5,y6⟩:=hs1.c7;have z0:=hs1.frozen 0;have z1:=hs1.frozen 1;have z2:=hs1.frozen 2;have z3:=hs1.frozen 3;have z4:=hs1.frozen 4;have z5:=hs1.frozen 5;have z6:=hs1.frozen 6;clear hs1;go_wp2;have hks:=(((((((Kept.refl (λ k=>k=s) w1).setCell (a:=⟨s,0,none⟩) (λ_=>rfl) (.int .u64 0)).setCell (a:=⟨s,1,none⟩) (λ_=>rfl) (.int .u64 0)).setCell (a:=⟨s,2,none⟩) (λ_=>rfl) (.int .i64 0)).setCell (a:=⟨s,3,none⟩) (λ_=>rfl) (.slice none 0 0)).setCell (a:=⟨s,4,none⟩) (λ_=>rfl) (.string ⟨#[]⟩)).setCell (a:=⟨s,5,none⟩) (λ_=>rfl) (.bool false)).setCell (a:=⟨s,6,none⟩) (λ_=>rfl) (.int .u64 0);have hb0:=(((((((HS1.o).set 0 (.int .u64 0)).set 1 (.int .u64 0)).set 2 (.int .i64 0)).set 3 (.slice none 0 0)).set 4 (.string ⟨#[]⟩)).set 5 (.bool false)).set 6 (.int .u64 0);clear y0 z0 y1 z1 y2 z2 y3 z3 y4 z4 y5 z5 y6 z6 HS1;generalize (((((((w1).setCell ⟨s,0,none⟩ (.int .u64 0)).setCell ⟨s,1,none⟩ (.int .u64 0)).setCell ⟨s,2,none⟩ (.int .i64 0)).setCell ⟨s,3,none⟩ (.slice none 0 0)).setCell ⟨s,4,none⟩ (.string ⟨#[]⟩)).setCell ⟨s,5,none⟩ (.bool false)).setCell ⟨s,6,none⟩ (.int .u64 0)=w3 at *;have hb:Blk w3 s 127 [.int .u64 0,.int .u64 0,.int .i64 0,.slice none 0 0,.string ⟨#[]⟩,.bool false,.int .u64 0]:=hb0;clear hb0;have HF:=Hd (show Kept (λ_=>False) w w3 from HK.o.trans hks (λ i hi h=>by have h2:=HSS.o;omega));clear hks HK;obtain⟨q0,q1,q2,q3,q4,q5,q6⟩:=hb.c7;clear hb;refine bodyPost_ret (v:=.agg #[.int .u64 0,.int .u64 0,.int .i64 0,.slice none 0 0,.string ⟨#[]⟩,.bool false,.int .u64 0]) (by simp[results,Tryz.results94,go_sem,q0,q1,q2,q3,q4,q5,q6]) rfl ⟨rfl,HF.o⟩

theorem is_errF(F:Nat)(N fb fd:Int)(i id wd:Nat)(P X:Pg)(m:Nat)(sp:ByteArray)(lim:Nat)(Z:Nat->Prop)(num:Nat)(w:World)(h:IAt Z w F N fb fd i id wd P X m sp lim .ful) :
  Calls Tryz.prog 95 #[.pointer (some ⟨i,0,none⟩)] w λ e w'=>e=.returned (.int .i64 2)/\Kept (λ_=>False) w w':=by
 cases h with
 | ful h hi hR hA =>
  rename_i tk fr wp A c A2 c2 s0
  have x22:=h.k 22 rfl;clear h;go_enter Tryz.func95,Tryz.ntmps95;go_wp2;go_ret;exact⟨rfl,Kept.refl _ _⟩

theorem is_sep0(F:Nat)(N fb fd:Int)(i id wd:Nat)(P X:Pg)(m:Nat)(sp:ByteArray)(lim:Nat)(Z:Nat->Prop)(num:Nat)(w:World)(h:IAt Z w F N fb fd i id wd P X m sp lim (.don none)) :
  Calls Tryz.prog 96 #[.pointer (some ⟨i,0,none⟩)] w λ e w'=>e=.returned (.string ⟨#[]⟩)/\Kept (λ_=>False) w w':=by
 cases h with
 | don0 h hw hi hz =>
  rename_i q2 tk Zw A c A2 c2
  have x22:=h.k 22 rfl;have x26:=h.k 26 rfl;clear h;go_enter Tryz.func96,Tryz.ntmps96;go_wp2;go_ret;exact⟨rfl,Kept.refl _ _⟩

theorem is_sep1(F:Nat)(N fb fd:Int)(i id wd:Nat)(P X:Pg)(m:Nat)(sp:ByteArray)(lim:Nat)(Z:Nat->Prop)(num:Nat)(w:World)(h:IAt Z w F N fb fd i id wd P X m sp lim (.don (some num))) :
  Calls Tryz.prog 96 #[.pointer (some ⟨i,0,none⟩)] w λ e w'=>e=.returned (.string sp)/\Kept (λ_=>False) w w':=by
 cases h with
 | don1 h hf hw hi hzf hz hd =>
  rename_i q2 r tk Zf Zw A c A3 c3
  have x22:=h.k 22 rfl;have x26:=h.k 26 rfl;clear h;go_enter Tryz.func96,Tryz.ntmps96;go_wp2;go_ret;exact⟨rfl,Kept.refl _ _⟩


def insD(F lim id wd:Nat)(P X:Pg)(m:Nat)(sp:ByteArray)(Nv:Nat):Nat:=if F<X.xs.length then (if Nv<lim then 2+(frsN F (lim:Int) X m (Nv+1)).length+(wrsN F (lim:Int) id wd P (lpg X m sp (Nv+1))).length else 1) else (wrsN F (lim:Int) id wd P X).length
theorem insD_pos{F lim id wd:Nat}{P X:Pg}{m:Nat}{sp:ByteArray}{Nv:Nat}:0<insD F lim id wd P X m sp Nv:=by
 unfold insD;have hw:=wrsN_len (F:=F) (N:=(lim:Int)) (id:=id) (wd:=wd) P X
 split
 ·split<;>omega
 ·omega
theorem new_startG(F:Nat)(fb fd:Int)(id wd lim Nv:Nat)(P:Pg)(A:Option Addr)(c:Nat)(key:ByteArray)(ref m:Nat)(sp:ByteArray)(l0:List Cel)(w:World)(O:Iok F (lim:Int) fb fd id wd P (npg P key ref) m sp lim Nv l0 ⟨#[]⟩ 0)(hR:Rs w A c P.xs)(ha:Asc P.xs)(hk:has key P.xs=false) :
  Calls Tryz.prog 82 #[.agg #[.int .i64 1,.int .i64 2,.int .i64 lim,.int .i64 Cf.C,.int .i64 Cf.R,.int .i64 F,.int .u64 Cf.K,.int .i64 10,.int .i64 fb,.int .i64 fd],.agg #[.int .u64 id,.int .u64 wd,.int .i64 P.lv,.slice A P.xs.length c,.string P.hi,.bool P.la,.int .u64 P.rt],.string key,.int .u64 ref] w λ e w'=>∃(i:Nat) (Z:Nat->Prop) (s:Is) (d:Nat),e=.returned (.pointer (some ⟨i,0,none⟩))/\IAt Z w' F (lim:Int) fb fd i id wd P (npg P key ref) m sp lim s/\Ipl F (lim:Int) id wd P (npg P key ref) m sp lim Nv l0 ⟨#[]⟩ 0 s l0 d/\s.two=decide (F<(npg P key ref).xs.length)/\(0<d/\d=insD F lim id wd P (npg P key ref) m sp Nv)/\(∀ j,Z j->w.heap.size<=j/\j<w'.heap.size)/\Kept (λ_=>False) w w':=by
 have hw0:=wrsN_len (F:=F) (N:=(lim:Int)) (id:=id) (wd:=wd) P (npg P key ref)
 by_cases hf:F<(npg P key ref).xs.length
 ·refine(newInsert_take (lim:Int) F fb fd O.lim O.reach id wd P A c key ref lim w (by have:=O.pl;omega) O.plv O.word rfl hR ha hk hf).mono ?_
  rintro e w' ⟨i,q,A1,c1,A2,c2,rfl,hI,hQ,hR1,hR2,hGE,hK⟩;obtain⟨d,hd,hIp⟩:∃ d,(0<d/\d=insD F lim id wd P (npg P key ref) m sp Nv)/\Ipl F (lim:Int) id wd P (npg P key ref) m sp lim Nv l0 ⟨#[]⟩ 0 (.tak false 0 ⟨#[]⟩ 0) l0 d:=by
   by_cases hv:Nv<lim
   ·exact⟨_,⟨by omega,by unfold insD;rw[if_pos hf,if_pos hv]⟩,.tak0 hv⟩
   ·exact⟨1,⟨by omega,by unfold insD;rw[if_pos hf,if_neg hv]⟩,.none (by omega)⟩
  refine⟨i,λ j=>w.heap.size<=j/\j<w'.heap.size,_,d,rfl,IAt.tak hI hQ ⟨by omega,hI.lt⟩ ⟨by omega,hQ.lt⟩ (by omega) hR1 hR2 (λ a ha hp=>?_) (λ a ha=>?_),hIp,by simp[Is.two,hf],hd,λ j hj=>hj,hK⟩
  ·obtain⟨g9,o9,e9,h9, -⟩:=hR1.at hp
   have h1:=hGE.2.2.1 a ha hp;rw[e9] at ha;cases ha;exact⟨⟨h1.1,h9⟩,h1.2.1,h1.2.2⟩
  ·obtain⟨g9,o9,e9,h9, -⟩:=hR2.at (by rw[npg_length];omega)
   have h1:=hGE.2.2.2 a ha;rw[e9] at ha;cases ha;exact⟨⟨h1.1,h9⟩,h1.2.1,h1.2.2⟩
 ·refine(newInsert_write (lim:Int) F fb fd O.lim O.reach id wd P A c key ref lim w (by have:=O.pl;omega) O.plv O.word rfl hR ha hk (by omega)).mono ?_
  rintro e w' ⟨i,q,Zw,A1,c1,A2,c2,rfl,hI,hS,hGE,hK⟩;have hI0:=Ipl.wri0 (F:=F) (N:=(lim:Int)) (id:=id) (wd:=wd) (P:=P) (X:=(npg P key ref)) (m:=m) (sp:=sp) (lim:=lim) (Nv:=Nv) (l0:=l0) (K:=⟨#[]⟩) (M:=0) (j:=0) (by omega);rw[List.take_zero,app_nil] at hI0;exact⟨i,λ j=>j=i\/Zw j,_,_,rfl,IAt.wri0 hI hS (.inl rfl) (λ k hk=>⟨.inr hk,(hGE.2 k hk).2⟩),hI0,by simp[Is.two,hf],⟨by omega,by unfold insD;rw[if_neg hf];omega⟩,λ j hj=>by
   rcases hj with hj|hj
   ·rw[hj];exact⟨hGE.1,hI.lt⟩
   ·exact⟨(hGE.2 j hj).1,hS.lt j hj⟩,hK⟩
end
end Go.Proofs.YtlkgmnjceghpiaaGreat
namespace Go.Proofs.YtlkgmnjceghpiaaGreat
open Go.RowKit Go.Deep Plain
variable [Cf]
set_option linter.unusedVariables false
set_option linter.unusedSectionVars false

theorem count_of{F:Nat}(h4:4<=F)(h6:F<=6):cellAt (startCells 1 2 Cf.N Cf.C Cf.R (F:Int)) 4=(((1:Nat):Int),(⟨#[]⟩:ByteArray),(0:Int)):=by
 have hN1:=Cf.n1;have hN2:=Cf.n2;have hC1:=Cf.c1;have hC2:=Cf.c2;have hR1:=Cf.r1;have hR2:=Cf.r2;have hNF:0<=(Cf.N:Int)*(F:Int)/\(Cf.N:Int)*(F:Int)<=131072:=(limF (F:=F) h4 h6).nf;have hlen:=startCells_length 1 2 Cf.N Cf.C Cf.R (F:Int) (limF h4 h6);have hall:allCells 1 2 Cf.N Cf.C Cf.R (F:Int)=10+((Cf.N:Int)*(F:Int)+(Cf.N:Int)*4)+(Cf.C:Int)+3*(Cf.R:Int):=by
  unfold allCells firstRecord firstChain firstNode;omega
 have he:nodeAt Cf.N (F:Int) (firstNode 1 2) 1 2=nad F 1 1:=rfl;have hlo:nad F 1 1=12:=by rw[nad_eq (by omega) (by omega) (by omega),nla_eq (by omega) (by omega)];omega
 have hr:((List.replicate (allCells 1 2 Cf.N Cf.C Cf.R (F:Int)).toNat cel0).length:Int)=allCells 1 2 Cf.N Cf.C Cf.R (F:Int):=by rw[List.length_replicate];omega
 unfold startCells;rw[he,cellAt_other (by omega),cellAt_same ⟨by omega,by rw[putAt_length];omega⟩];rfl
theorem kitMem3(F:Nat)(h4:4<=F)(h6:F<=6)(w:World) :
  Calls Tryz.prog 8 #[.agg #[.int .i64 1,.int .i64 2,.int .i64 Cf.N,.int .i64 Cf.C,.int .i64 Cf.R,.int .i64 F,.int .u64 Cf.K]] w λ e w'=>∃(b g:Nat) (l:List Cel) (fb fd:Int),e=.returned (.tuple #[.agg #[.int .i64 1,.int .i64 2,.int .i64 Cf.N,.int .i64 Cf.C,.int .i64 Cf.R,.int .i64 F,.int .u64 Cf.K,.int .i64 10,.int .i64 fb,.int .i64 fd],.pointer (some ⟨b,0,none⟩)])/\Mem w' b g l 0/\Start F l/\(cellAt l 0=(((1:Nat):Int),(⟨#[]⟩:ByteArray),(0:Int))/\cellAt l 4=(((1:Nat):Int),(⟨#[]⟩:ByteArray),(0:Int)))/\Reach3 10 fb fd/\w.heap.size<=b/\w.heap.size<=g/\Kept (λ_=>False) w w':=by
 refine(kitMemory_yes 1 2 Cf.N Cf.C Cf.R (F:Int) Cf.K (limF h4 h6) (by have:=Cf.k1;omega) (by have:=Cf.k2;omega) w).mono ?_;rintro e w' ⟨b,g,he,hM,hb,hg,hK⟩;exact⟨b,g,_,firstChain 1 2 Cf.N (F:Int),firstRecord 1 2 Cf.N Cf.C (F:Int),he,hM,start_of h4 h6,⟨root_of h4 h6,count_of h4 h6⟩,(limF h4 h6).reach,hb,hg,hK⟩
end Go.Proofs.YtlkgmnjceghpiaaGreat
namespace Go.Proofs.YtlkgmnjceghpiaaGreat
section
open Go.RowKit Go.Deep Plain
variable [Cf]
set_option linter.unusedVariables false
set_option linter.unusedSectionVars false

structure Iw(F:Nat)(fb fd:Int)(id wd:Nat)(P X:Pg)(m:Nat)(sp:ByteArray)(lim Nv:Nat)(l0:List Cel):Prop where
 lm:Lim 1 2 (lim:Int) Cf.C Cf.R (F:Int)
 reach:Reach3 10 fb fd
 pl:P.xs.length<=900
 plv:P.lv<9223372036854775808
 xl:X.xs.length<=900
 word:wd<18446744073709551616
 full:F<X.xs.length->Nv<lim->Iok F (lim:Int) fb fd id wd P X m sp lim Nv l0 ⟨#[]⟩ 0
 cell:F<X.xs.length->cellAt l0 4=((Nv:Int),(⟨#[]⟩:ByteArray),(0:Int))
theorem new_startW(F:Nat)(fb fd:Int)(id wd lim Nv:Nat)(P:Pg)(A:Option Addr)(c:Nat)(key:ByteArray)(ref m:Nat)(sp:ByteArray)(l0:List Cel)(w:World)(O:Iw F fb fd id wd P (npg P key ref) m sp lim Nv l0)(hR:Rs w A c P.xs)(ha:Asc P.xs)(hk:has key P.xs=false) :
  Calls Tryz.prog 82 #[.agg #[.int .i64 1,.int .i64 2,.int .i64 lim,.int .i64 Cf.C,.int .i64 Cf.R,.int .i64 F,.int .u64 Cf.K,.int .i64 10,.int .i64 fb,.int .i64 fd],.agg #[.int .u64 id,.int .u64 wd,.int .i64 P.lv,.slice A P.xs.length c,.string P.hi,.bool P.la,.int .u64 P.rt],.string key,.int .u64 ref] w λ e w'=>∃(i:Nat) (Z:Nat->Prop) (s:Is) (d:Nat),e=.returned (.pointer (some ⟨i,0,none⟩))/\IAt Z w' F (lim:Int) fb fd i id wd P (npg P key ref) m sp lim s/\Ipl F (lim:Int) id wd P (npg P key ref) m sp lim Nv l0 ⟨#[]⟩ 0 s l0 d/\s.two=decide (F<(npg P key ref).xs.length)/\(0<d/\d=insD F lim id wd P (npg P key ref) m sp Nv)/\(∀ j,Z j->w.heap.size<=j/\j<w'.heap.size)/\Kept (λ_=>False) w w':=by
 by_cases hf:F<(npg P key ref).xs.length
 ·by_cases hv:Nv<lim
  ·exact new_startG F fb fd id wd lim Nv P A c key ref m sp l0 w (O.full hf hv) hR ha hk
  ·refine(newInsert_take (lim:Int) F fb fd O.lm O.reach id wd P A c key ref lim w (by have:=O.pl;omega) O.plv O.word rfl hR ha hk hf).mono ?_
   rintro e w' ⟨i,q,A1,c1,A2,c2,rfl,hI,hQ,hR1,hR2,hGE,hK⟩;refine⟨i,λ j=>w.heap.size<=j/\j<w'.heap.size,_,1,rfl,IAt.tak hI hQ ⟨by omega,hI.lt⟩ ⟨by omega,hQ.lt⟩ (by omega) hR1 hR2 (λ a ha hp=>?_) (λ a ha=>?_),.none (by omega),by simp[Is.two,hf],⟨by omega,by unfold insD;rw[if_pos hf,if_neg hv]⟩,λ j hj=>hj,hK⟩
   ·obtain⟨g9,o9,e9,h9, -⟩:=hR1.at hp
    have h1:=hGE.2.2.1 a ha hp;rw[e9] at ha;cases ha;exact⟨⟨h1.1,h9⟩,h1.2.1,h1.2.2⟩
   ·obtain⟨g9,o9,e9,h9, -⟩:=hR2.at (by rw[npg_length];omega)
    have h1:=hGE.2.2.2 a ha;rw[e9] at ha;cases ha;exact⟨⟨h1.1,h9⟩,h1.2.1,h1.2.2⟩
 ·have hw0:=wrsN_len (F:=F) (N:=(lim:Int)) (id:=id) (wd:=wd) P (npg P key ref)
  refine(newInsert_write (lim:Int) F fb fd O.lm O.reach id wd P A c key ref lim w (by have:=O.pl;omega) O.plv O.word rfl hR ha hk (by omega)).mono ?_;rintro e w' ⟨i,q,Zw,A1,c1,A2,c2,rfl,hI,hS,hGE,hK⟩;have hI0:=Ipl.wri0 (F:=F) (N:=(lim:Int)) (id:=id) (wd:=wd) (P:=P) (X:=(npg P key ref)) (m:=m) (sp:=sp) (lim:=lim) (Nv:=Nv) (l0:=l0) (K:=⟨#[]⟩) (M:=0) (j:=0) (by omega);rw[List.take_zero,app_nil] at hI0;exact⟨i,λ j=>j=i\/Zw j,_,_,rfl,IAt.wri0 hI hS (.inl rfl) (λ k hk=>⟨.inr hk,(hGE.2 k hk).2⟩),hI0,by simp[Is.two,hf],⟨by omega,by unfold insD;rw[if_neg hf];omega⟩,λ j hj=>by
   rcases hj with hj|hj
   ·rw[hj];exact⟨hGE.1,hI.lt⟩
   ·exact⟨(hGE.2 j hj).1,hS.lt j hj⟩,hK⟩
theorem ir_stepW{Z:Nat->Prop}{w:World}{F:Nat}{fb fd:Int}{i id wd:Nat}{P X:Pg}{m:Nat}{sp:ByteArray}{lim Nv:Nat}{l0 l:List Cel}{s:Is}{d:Nat}(O:Iw F fb fd id wd P X m sp lim Nv l0)(htw:s.two=decide (F<X.xs.length))(h:IAt Z w F (lim:Int) fb fd i id wd P X m sp lim s)(I:Ipl F (lim:Int) id wd P X m sp lim Nv l0 ⟨#[]⟩ 0 s l d)(hd:0<d)(b g k:Nat)(hm:Mem w b g l k)(hb:¬ Z b)(hg:¬ Z g)(hk:k<9223372036854775808) :
  Calls Tryz.prog 44 #[.pointer (some ⟨i,0,none⟩),.pointer (some ⟨b,0,none⟩)] w λ e w'=>∃(s':Is) (l':List Cel),e=.returned (.bool (decide (d=1)))/\Mem w' b g l' (k+1)/\IAt (Zm Z w w') w' F (lim:Int) fb fd i id wd P X m sp lim s'/\Ipl F (lim:Int) id wd P X m sp lim Nv l0 ⟨#[]⟩ 0 s' l' (d-1)/\Kept (λ j=>Z j\/j=b\/j=g) w w'/\s'.two=s.two:=by
 by_cases hf:F<X.xs.length
 ·by_cases hv:Nv<lim
  ·exact ir_step (O.full hf hv) h I hd b g k hm hb hg hk
  ·rw[decide_eq_true hf] at htw
   cases I with
   | tak0 hv'=>omega
   | tak1 hv'=>omega
   | fil hv' hj=>omega
   | wri1 hv' hj=>omega
   | don1 hv'=>omega
   | wri0 hj=>cases htw
   | don0=>omega
   | ful hv'=>omega
   | none hv' =>
    rename_i N0 K0 M0
    refine(is_full F (lim:Int) fb fd i id wd P X m sp lim Z O.lm O.reach N0 Nv K0 ⟨#[]⟩ M0 0 w h b g l0 k hm hb hg hk (O.cell hf) hv').mono ?_;rintro e w' ⟨rfl,h1,h2,h3⟩;exact⟨_,_,rfl,h1,h2,.ful hv',h3,rfl⟩
 ·rw[decide_eq_false hf] at htw
  have hw0:=wrsN_len (F:=F) (N:=(lim:Int)) (id:=id) (wd:=wd) P X;have hx:=O.xl;cases I with
  | tak0 hv=>cases htw
  | none hv=>cases htw
  | tak1 hv=>cases htw
  | fil hv hj=>cases htw
  | wri1 hv hj=>cases htw
  | wri0 hj =>
   rename_i j
   obtain⟨ad,cN,cK,cM,hs⟩:=sto_ex2 hj;have he:=app_take (l:=l0) hs
   by_cases hl:j+1=(wrsN F (lim:Int) id wd P X).length
   ·refine(is_written0 F (lim:Int) fb fd i id wd P X m sp lim Z 0 j (by omega) ad cN cM cK hs w h b g _ k hm hb hg hk hl).mono ?_
    rintro e w' ⟨rfl,h1,h2,h3⟩;refine⟨_,_,by rw[show decide ((wrsN F (lim:Int) id wd P X).length-j=1)=true from by simp;omega],h1,h2,?_,h3,rfl⟩;rw[show (wrsN F (lim:Int) id wd P X).length-j-1=0 by omega];have e2:putAt (app l0 ((wrsN F (lim:Int) id wd P X).take j)) ad (cN,cK,cM)=app l0 (wrsN F (lim:Int) id wd P X):=by
     have e3:=he;rw[hl,List.take_length] at e3;exact e3.symm
    rw[e2];exact .don0
   ·refine(is_wri0 F (lim:Int) fb fd i id wd P X m sp lim Z 0 j (by omega) ad cN cM cK hs w h b g _ k hm hb hg hk (by omega)).mono ?_
    rintro e w' ⟨rfl,h1,h2,h3⟩;refine⟨_,_,by rw[show decide ((wrsN F (lim:Int) id wd P X).length-j=1)=false from by simp;omega],h1,h2,?_,h3,rfl⟩;have:=Ipl.wri0 (F:=F) (N:=(lim:Int)) (id:=id) (wd:=wd) (P:=P) (X:=X) (m:=m) (sp:=sp) (lim:=lim) (Nv:=Nv) (l0:=l0) (K:=⟨#[]⟩) (M:=0) (j:=j+1) (by omega);rw[he] at this;rw[show (wrsN F (lim:Int) id wd P X).length-j-1=(wrsN F (lim:Int) id wd P X).length-(j+1) by omega];exact this
  | don1 hv=>omega
  | don0=>omega
  | ful hv=>omega
end

section
open Go.RowKit Go.Deep Plain
variable [Cf]
set_option linter.unusedVariables false
set_option linter.unusedSectionVars false
theorem wsto_app{la:Int}{wb we:Nat}{cs:List Sto}{l:List Cel}:app l (wsto la wb we cs)=putAt (app (putAt l la ((wb:Int),(⟨#[]⟩:ByteArray),(0:Int))) cs) la ((we:Int),(⟨#[]⟩:ByteArray),(0:Int)):=by
 unfold wsto;rw[app_snoc];rfl
theorem wsto_holds{F:Nat}{la:Int}{ad:Nat->Int}{n:Nat}(ha:Ads F la ad n){wb we:Nat}{l:List Cel}(hn:l.length=n){P Q:Pg}(hP:Holds ad l P)(hF:P.xs.length<=F)(hQ:Q.xs.length<=F):Holds ad (app l (wsto la wb we (chg (pst ad P) (pst ad Q)))) Q:=by
 have h1:Holds ad (putAt l la ((wb:Int),(⟨#[]⟩:ByteArray),(0:Int))) P:=λ r hr=>by
  rw[cellAt_other (Ne.symm (ha.ne r (by omega)))];exact hP r hr
 have h2:=chg_holds ha (by rw[putAt_length];exact hn) h1 hF hQ;intro r hr;rw[wsto_app,cellAt_other (Ne.symm (ha.ne r (by omega)))];exact h2 r hr
theorem wsto_nats{la:Int}{wb we:Nat}{cs:List Sto}(hb:wb<18446744073709551616)(he:we<18446744073709551616)(hc:∀ s∈cs,NatCell s.2):∀ s∈wsto la wb we cs,NatCell s.2:=by
 intro s hs;unfold wsto at hs;rcases List.mem_append.1 hs with h|h
 ·rcases List.mem_cons.1 h with rfl|h
  ·exact⟨wb,0,_,rfl,hb,by omega⟩
  ·exact hc s h
 ·rw[List.mem_singleton.1 h];exact⟨we,0,_,rfl,he,by omega⟩
theorem nla_rng{F n:Nat}(h4:4<=F)(h6:F<=6)(h1:1<=n)(h2:n<=Cf.N):10<=nla F n/\nla F n+(F:Int)+4<=10+((Cf.N:Int)*(F:Int)+(Cf.N:Int)*4):=by
 rcases nla_lin h4 h6 h1 h2 with⟨e,a⟩|⟨e,a⟩|⟨e,a⟩<;>omega
theorem nla_apart{F n m:Nat}(h4:4<=F)(h6:F<=6)(h1:1<=n)(h2:n<=Cf.N)(h3:1<=m)(h5:m<=Cf.N)(hne:n≠m):nla F n+(F:Int)+4<=nla F m\/nla F m+(F:Int)+4<=nla F n:=by
 rcases Nat.lt_or_gt_of_ne hne with h|h
 ·exact .inl (nla_far h4 h6 h1 h h5)
 ·exact .inr (nla_far h4 h6 h3 h h2)
theorem wsto_farR{la:Int}{ad:Nat->Int}{wb we:Nat}{l:List Cel}{P Q:Pg}{i:Int}(h1:i≠la)(h2:∀ r,r<Q.xs.length+3->ad r≠i):cellAt (app l (wsto la wb we (chg (pst ad P) (pst ad Q)))) i=cellAt l i:=by
 rw[wsto_app,cellAt_other (Ne.symm h1),app_other _ _ (λ s hs=>by
  obtain⟨r,hr,rfl⟩:=chg_addr hs;exact h2 r hr),cellAt_other (Ne.symm h1)]
theorem pst_farR{ad:Nat->Int}{l:List Cel}{Q:Pg}{i:Int}(h2:∀ r,r<Q.xs.length+3->ad r≠i):cellAt (app l (pst ad Q)) i=cellAt l i :=
 app_other _ _ (λ s hs=>by
  obtain⟨r,hr,rfl⟩:=pst_addr hs;exact h2 r hr)
theorem pst_holdsR{F:Nat}{la:Int}{ad:Nat->Int}{n:Nat}(ha:Ads F la ad n){l:List Cel}(hn:l.length=n){Q:Pg}(hQ:Q.xs.length<=F):Holds ad (app l (pst ad Q)) Q:=λ r hr=>by
 have:=pst_holds ha hn hQ (Q.xs.length+3) (Nat.le_refl _) r hr
 rwa [List.take_of_length_le (by rw[pst_length];exact Nat.le_refl _)] at this
theorem word_end{w0:Nat}(h:w0%4=0):unlockW (endW (beginW (lockW w0)))%4=0:=by unfold unlockW endW beginW lockW;omega
theorem word_free{w0:Nat}(h:w0%4=0):unlockW (lockW w0)%4=0:=by unfold unlockW lockW;omega
section
variable {F t w0:Nat} {l:List Cel}
def lkd(F t w0:Nat)(l:List Cel):List Cel:=putAt l (nla F t) (((lockW w0:Nat):Int),(⟨#[]⟩:ByteArray),(0:Int))
theorem lkd_nats(hn:Nats l)(hw:w0<18446744073709551616):Nats (lkd F t w0 l):=hn.put _ ⟨lockW w0,0,_,rfl,lockW_lt hw,by omega⟩
end
variable {F:Nat} {key:ByteArray} {ref m:Nat} {sp:ByteArray}
theorem far_node(h4:4<=F)(h6:F<=6){t u:Nat}(h1:1<=t)(h2:t<=Cf.N)(h3:1<=u)(h5:u<=Cf.N)(hne:u≠t){r:Nat}(hr:r<F+3):(∀ j:Nat,j<F+4->nad F u r≠nla F t+(j:Int))/\(∀ j:Nat,j<F+4->nla F u≠nla F t+(j:Int)):=by
 have e:=nad_eq (F:=F) h3 h5 hr;rcases nla_apart h4 h6 h1 h2 h3 h5 (Ne.symm hne) with h|h
 ·exact⟨λ j hj=>by omega,λ j hj=>by omega⟩
 ·exact⟨λ j hj=>by omega,λ j hj=>by omega⟩
theorem far_ctr(h4:4<=F)(h6:F<=6){t:Nat}(h1:1<=t)(h2:t<=Cf.N){i:Int}(hi:i<10\/10+((Cf.N:Int)*(F:Int)+(Cf.N:Int)*4)<=i):∀ j:Nat,j<F+4->i≠nla F t+(j:Int):=by
 have:=nla_rng h4 h6 h1 h2;intro j hj;omega
theorem fits_npg{P:Pg}(h:Fits P)(hl:P.xs.length<=900)(hr:ref<18446744073709551616):Fits (npg P key ref) :=
 ⟨h.lv,h.rt,λ x hx=>by
  rcases ins_mem.1 hx with rfl|hx
  ·exact hr
  ·exact h.xs x hx,by rw[npg_length];omega⟩
end
end Go.Proofs.YtlkgmnjceghpiaaGreat
