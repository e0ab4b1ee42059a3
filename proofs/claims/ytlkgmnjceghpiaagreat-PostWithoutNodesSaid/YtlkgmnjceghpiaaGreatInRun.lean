/-
 Held of a Fresh that has finished. Condition: none.
-/
import Derived.Test.YtlkgmnjceghpiaaGreatLkNew
import Derived.Test.YtlkgmnjceghpiaaGreatInSte
namespace Go.Proofs.YtlkgmnjceghpiaaGreat
set_option maxHeartbeats 8000000
set_option maxRecDepth 100000
section
open Go.RowKit Go.Deep Plain
set_option linter.unusedVariables false
set_option linter.unusedSectionVars false

theorem fheld_any(Z:Nat->Prop)(q:Nat)(ss:List Sto)(j nid wd:Nat)(P:Pg)(w:World)(h:Stm Z w q 188 ss j nid wd P)(hj:j=ss.length)(h40:P.xs.length<=1099511627776) :
  Calls Tryz.prog 141 #[.pointer (some ⟨q,0,none⟩)] w λ e w'=>∃ A c,e=.returned (.agg #[.int .u64 nid,.int .u64 wd,.int .i64 P.lv,.slice A P.xs.length c,.string P.hi,.bool P.la,.int .u64 P.rt])/\Rs w' A c P.xs/\(∀ a,A=some a->w.heap.size<=a.block)/\Kept (λ_=>False) w w':=by
 have hzb:∀ i,Z i->i<w.heap.size:=h.lt;obtain⟨S0,B0,Z0⟩:=box_one w [.int .u64 0,.int .u64 0,.int .i64 0,.slice none 0 0,.string ⟨#[]⟩,.bool false,.int .u64 0] 127;have hk0:=(Kept.refl (λ_=>False) w).alloc (.cells #[.int .u64 0,.int .u64 0,.int .i64 0,.slice none 0 0,.string ⟨#[]⟩,.bool false,.int .u64 0] 127);have HH:=Hd (h.kept hk0 kk2);have HS:=Hd S0;have HK:=Hd hk0;clear h S0 B0 hk0;go_enter Tryz.func141,Tryz.ntmps141;go_wp2_with fail;generalize w.alloc (.cells #[.int .u64 0,.int .u64 0,.int .i64 0,.slice none 0 0,.string ⟨#[]⟩,.bool false,.int .u64 0] 127)=W at *;refine(result_any Z q 188 ss j nid wd P _ HH.o hj h40).mono ?_;rintro e w1 ⟨A,c,rfl,hR,hA,hK⟩;have hS1:=hK.blk HS.o id;have HK1:=Hd (HK.o.trans hK kk2);have v0:=hS1.k 0 rfl;have zv0:=hS1.frozen 0;have v1:=hS1.k 1 rfl;have zv1:=hS1.frozen 1;have v2:=hS1.k 2 rfl;have zv2:=hS1.frozen 2;have v3:=hS1.k 3 rfl;have zv3:=hS1.frozen 3;have v4:=hS1.k 4 rfl;have zv4:=hS1.frozen 4;have v5:=hS1.k 5 rfl;have zv5:=hS1.frozen 5;have v6:=hS1.k 6 rfl;have zv6:=hS1.frozen 6;have HR:=Hd hR;have HA:=Hd hA;clear hR hA hK hS1 HS HK HH;go_wp2;refine bodyPost_ret (v:=.agg #[.int .u64 nid,.int .u64 wd,.int .i64 P.lv,.slice A P.xs.length c,.string P.hi,.bool P.la,.int .u64 P.rt]) (by first|(simp[results,Tryz.results141,go_sem];done)|(simp[results,Tryz.results141,go_sem, *];done)) rfl ?_;exact⟨_,_,rfl,HR.o.keptF ((((((((Kept.refl (λ i=>i=w.heap.size) w1).setCell (a:=⟨w.heap.size,0,none⟩) (λ_=>rfl) (.int .u64 nid)).setCell (a:=⟨w.heap.size,1,none⟩) (λ_=>rfl) (.int .u64 wd)).setCell (a:=⟨w.heap.size,2,none⟩) (λ_=>rfl) (.int .i64 P.lv)).setCell (a:=⟨w.heap.size,3,none⟩) (λ_=>rfl) (.slice A P.xs.length c)).setCell (a:=⟨w.heap.size,4,none⟩) (λ_=>rfl) (.string P.hi)).setCell (a:=⟨w.heap.size,5,none⟩) (λ_=>rfl) (.bool P.la)).setCell (a:=⟨w.heap.size,6,none⟩) (λ_=>rfl) (.int .u64 P.rt)) (λ a ha e=>by have:=HA.o a ha;omega),λ a ha=>by have:=HA.o a ha;omega,(((((((HK1.o.setNew (b:=w.heap.size) (Nat.le_refl _) 0 (.int .u64 nid)).setNew (b:=w.heap.size) (Nat.le_refl _) 1 (.int .u64 wd)).setNew (b:=w.heap.size) (Nat.le_refl _) 2 (.int .i64 P.lv)).setNew (b:=w.heap.size) (Nat.le_refl _) 3 (.slice A P.xs.length c)).setNew (b:=w.heap.size) (Nat.le_refl _) 4 (.string P.hi)).setNew (b:=w.heap.size) (Nat.le_refl _) 5 (.bool P.la)).setNew (b:=w.heap.size) (Nat.le_refl _) 6 (.int .u64 P.rt))⟩
end
end Go.Proofs.YtlkgmnjceghpiaaGreat
namespace Go.Proofs.YtlkgmnjceghpiaaGreat
open Go.RowKit Go.Deep Plain
set_option linter.unusedVariables false
set_option linter.unusedSectionVars false

section
open Go.RowKit Go.Deep Plain
variable [Cf]
set_option linter.unusedVariables false
set_option linter.unusedSectionVars false

theorem is_left0(F:Nat)(N fb fd:Int)(i id wd:Nat)(P X:Pg)(m:Nat)(sp:ByteArray)(lim:Nat)(Z:Nat->Prop)(num:Nat)(w:World)(h:IAt Z w F N fb fd i id wd P X m sp lim (.don none))(hlen:X.xs.length<=1099511627776) :
  Calls Tryz.prog 93 #[.pointer (some ⟨i,0,none⟩)] w λ e w'=>∃ A4 c4,e=.returned (.agg #[.int .u64 id,.int .u64 (endW (beginW wd):Int),.int .i64 X.lv,.slice A4 X.xs.length c4,.string X.hi,.bool X.la,.int .u64 X.rt])/\Rs w' A4 c4 X.xs/\(∀ a,A4=some a->w.heap.size<=a.block)/\Kept (λ_=>False) w w':=by
 cases h with
 | don0 h hw hi hz =>
  rename_i q2 tk Zw A c A2 c2
  obtain⟨s,hs⟩:∃ s,w.heap.size=s:=⟨_,rfl⟩;have hi0:=h;go_enter Tryz.func93,Tryz.ntmps93;go_upto_region 1 with fail
  have hk0:=(Kept.refl (λ_=>False) w).alloc (.cells #[.int .u64 0,.int .u64 0,.int .i64 0,.slice none 0 0,.string ⟨#[]⟩,.bool false,.int .u64 0] 127);have HS1:=Hd (Blk.new w [.int .u64 0,.int .u64 0,.int .i64 0,.slice none 0 0,.string ⟨#[]⟩,.bool false,.int .u64 0] 127);have HSS:=Hd (show s=w.heap.size from hs.symm);replace hi0:=hk0.blk hi0 (λ h=>h);have hw1:=hw.kept hk0 kk2;rw[hs] at HS1;have HSZ:=Hd (show s<(w.alloc (.cells #[.int .u64 0,.int .u64 0,.int .i64 0,.slice none 0 0,.string ⟨#[]⟩,.bool false,.int .u64 0] 127)).heap.size from HS1.o.lt);generalize w.alloc (.cells #[.int .u64 0,.int .u64 0,.int .i64 0,.slice none 0 0,.string ⟨#[]⟩,.bool false,.int .u64 0] 127)=w1 at *;have HK:=Hd hk0;have x22:=hi0.k 22 rfl;have x25:=hi0.k 25 rfl;clear hk0 hi0 h hs;go_wp2_with fail;refine(wheld_any Zw q2 (wrsN F N id wd P X) _ id (endW (beginW wd)) X w1 hw1 rfl hlen).mono ?_;rintro e w2 ⟨A4,c4,rfl,hR4,hA4,hK4⟩;have HR4:=Hd hR4;have HA4:=Hd (show ∀ a,A4=some a->s<a.block from λ a ha=>by have h1:=hA4 a ha;have h2:=HSZ.o;omega);replace HS1:=Hd (hK4.blk HS1.o (λ h=>h));replace HK:=Hd (HK.o.trans hK4 kk2);clear hR4 hA4 hK4 x22 x25 hw1;have hs1:=HS1.o;obtain⟨y0,y1,y2,y3,y4,y5,y6⟩:=hs1.c7;have z0:=hs1.frozen 0;have z1:=hs1.frozen 1;have z2:=hs1.frozen 2;have z3:=hs1.frozen 3;have z4:=hs1.frozen 4;have z5:=hs1.frozen 5;have z6:=hs1.frozen 6;clear hs1;go_wp2;have hks:=(((((((Kept.refl (λ k=>k=s) w2).setCell (a:=⟨s,0,none⟩) (λ_=>rfl) (.int .u64 id)).setCell (a:=⟨s,1,none⟩) (λ_=>rfl) (.int .u64 (endW (beginW wd):Int))).setCell (a:=⟨s,2,none⟩) (λ_=>rfl) (.int .i64 X.lv)).setCell (a:=⟨s,3,none⟩) (λ_=>rfl) (.slice A4 X.xs.length c4)).setCell (a:=⟨s,4,none⟩) (λ_=>rfl) (.string X.hi)).setCell (a:=⟨s,5,none⟩) (λ_=>rfl) (.bool X.la)).setCell (a:=⟨s,6,none⟩) (λ_=>rfl) (.int .u64 X.rt);have hb0:=(((((((HS1.o).set 0 (.int .u64 id)).set 1 (.int .u64 (endW (beginW wd):Int))).set 2 (.int .i64 X.lv)).set 3 (.slice A4 X.xs.length c4)).set 4 (.string X.hi)).set 5 (.bool X.la)).set 6 (.int .u64 X.rt);clear y0 z0 y1 z1 y2 z2 y3 z3 y4 z4 y5 z5 y6 z6 HS1;generalize (((((((w2).setCell ⟨s,0,none⟩ (.int .u64 id)).setCell ⟨s,1,none⟩ (.int .u64 (endW (beginW wd):Int))).setCell ⟨s,2,none⟩ (.int .i64 X.lv)).setCell ⟨s,3,none⟩ (.slice A4 X.xs.length c4)).setCell ⟨s,4,none⟩ (.string X.hi)).setCell ⟨s,5,none⟩ (.bool X.la)).setCell ⟨s,6,none⟩ (.int .u64 X.rt)=w3 at *;have hb:Blk w3 s 127 [.int .u64 id,.int .u64 (endW (beginW wd):Int),.int .i64 X.lv,.slice A4 X.xs.length c4,.string X.hi,.bool X.la,.int .u64 X.rt]:=hb0;clear hb0;have HF:=Hd (show Rs w3 A4 c4 X.xs/\(∀ a,A4=some a->w.heap.size<=a.block)/\Kept (λ_=>False) w w3 from⟨HR4.o.keptF hks (λ a ha h=>by have h1:=HA4.o a ha;have h2:=HSS.o;omega),λ a ha=>by have h1:=HA4.o a ha;have h2:=HSS.o;omega,HK.o.trans hks (λ i hi h=>by have h2:=HSS.o;omega)⟩);clear hks HR4 HK HA4;obtain⟨q0,q1,q2,q3,q4,q5,q6⟩:=hb.c7;clear hb;refine bodyPost_ret (v:=.agg #[.int .u64 id,.int .u64 (endW (beginW wd):Int),.int .i64 X.lv,.slice A4 X.xs.length c4,.string X.hi,.bool X.la,.int .u64 X.rt]) (by simp[results,Tryz.results93,go_sem,q0,q1,q2,q3,q4,q5,q6]) rfl ⟨A4,c4,rfl,HF.o⟩

theorem is_left1(F:Nat)(N fb fd:Int)(i id wd:Nat)(P X:Pg)(m:Nat)(sp:ByteArray)(lim:Nat)(Z:Nat->Prop)(num:Nat)(w:World)(h:IAt Z w F N fb fd i id wd P X m sp lim (.don (some num)))(hlen:(lpg X m sp num).xs.length<=1099511627776) :
  Calls Tryz.prog 93 #[.pointer (some ⟨i,0,none⟩)] w λ e w'=>∃ A4 c4,e=.returned (.agg #[.int .u64 id,.int .u64 (endW (beginW wd):Int),.int .i64 ((lpg X m sp num).lv:Int),.slice A4 (lpg X m sp num).xs.length c4,.string (lpg X m sp num).hi,.bool (lpg X m sp num).la,.int .u64 ((lpg X m sp num).rt:Int)])/\Rs w' A4 c4 (lpg X m sp num).xs/\(∀ a,A4=some a->w.heap.size<=a.block)/\Kept (λ_=>False) w w':=by
 cases h with
 | don1 h hf hw hi hzf hz hd =>
  rename_i q2 r tk Zf Zw A c A3 c3
  obtain⟨s,hs⟩:∃ s,w.heap.size=s:=⟨_,rfl⟩;have hi0:=h;go_enter Tryz.func93,Tryz.ntmps93;go_upto_region 1 with fail
  have hk0:=(Kept.refl (λ_=>False) w).alloc (.cells #[.int .u64 0,.int .u64 0,.int .i64 0,.slice none 0 0,.string ⟨#[]⟩,.bool false,.int .u64 0] 127);have HS1:=Hd (Blk.new w [.int .u64 0,.int .u64 0,.int .i64 0,.slice none 0 0,.string ⟨#[]⟩,.bool false,.int .u64 0] 127);have HSS:=Hd (show s=w.heap.size from hs.symm);replace hi0:=hk0.blk hi0 (λ h=>h);have hw1:=hw.kept hk0 kk2;rw[hs] at HS1;have HSZ:=Hd (show s<(w.alloc (.cells #[.int .u64 0,.int .u64 0,.int .i64 0,.slice none 0 0,.string ⟨#[]⟩,.bool false,.int .u64 0] 127)).heap.size from HS1.o.lt);generalize w.alloc (.cells #[.int .u64 0,.int .u64 0,.int .i64 0,.slice none 0 0,.string ⟨#[]⟩,.bool false,.int .u64 0] 127)=w1 at *;have HK:=Hd hk0;have x22:=hi0.k 22 rfl;have x25:=hi0.k 25 rfl;clear hk0 hi0 h hs;go_wp2_with fail;refine(wheld_any Zw q2 (wrsN F N id wd P (lpg X m sp num)) _ id (endW (beginW wd)) (lpg X m sp num) w1 hw1 rfl hlen).mono ?_;rintro e w2 ⟨A4,c4,rfl,hR4,hA4,hK4⟩;have HR4:=Hd hR4;have HA4:=Hd (show ∀ a,A4=some a->s<a.block from λ a ha=>by have h1:=hA4 a ha;have h2:=HSZ.o;omega);replace HS1:=Hd (hK4.blk HS1.o (λ h=>h));replace HK:=Hd (HK.o.trans hK4 kk2);clear hR4 hA4 hK4 x22 x25 hw1;have hs1:=HS1.o;obtain⟨y0,y1,y2,y3,y4,y5,y6⟩:=hs1.c7;have z0:=hs1.frozen 0;have z1:=hs1.frozen 1;have z2:=hs1.frozen 2;have z3:=hs1.frozen 3;have z4:=hs1.frozen 4;have z5:=hs1.frozen 5;have z6:=hs1.frozen 6;clear hs1;go_wp2;have hks:=(((((((Kept.refl (λ k=>k=s) w2).setCell (a:=⟨s,0,none⟩) (λ_=>rfl) (.int .u64 id)).setCell (a:=⟨s,1,none⟩) (λ_=>rfl) (.int .u64 (endW (beginW wd):Int))).setCell (a:=⟨s,2,none⟩) (λ_=>rfl) (.int .i64 ((lpg X m sp num).lv:Int))).setCell (a:=⟨s,3,none⟩) (λ_=>rfl) (.slice A4 (lpg X m sp num).xs.length c4)).setCell (a:=⟨s,4,none⟩) (λ_=>rfl) (.string (lpg X m sp num).hi)).setCell (a:=⟨s,5,none⟩) (λ_=>rfl) (.bool (lpg X m sp num).la)).setCell (a:=⟨s,6,none⟩) (λ_=>rfl) (.int .u64 ((lpg X m sp num).rt:Int));have hb0:=(((((((HS1.o).set 0 (.int .u64 id)).set 1 (.int .u64 (endW (beginW wd):Int))).set 2 (.int .i64 ((lpg X m sp num).lv:Int))).set 3 (.slice A4 (lpg X m sp num).xs.length c4)).set 4 (.string (lpg X m sp num).hi)).set 5 (.bool (lpg X m sp num).la)).set 6 (.int .u64 ((lpg X m sp num).rt:Int));clear y0 z0 y1 z1 y2 z2 y3 z3 y4 z4 y5 z5 y6 z6 HS1;generalize (((((((w2).setCell ⟨s,0,none⟩ (.int .u64 id)).setCell ⟨s,1,none⟩ (.int .u64 (endW (beginW wd):Int))).setCell ⟨s,2,none⟩ (.int .i64 ((lpg X m sp num).lv:Int))).setCell ⟨s,3,none⟩ (.slice A4 (lpg X m sp num).xs.length c4)).setCell ⟨s,4,none⟩ (.string (lpg X m sp num).hi)).setCell ⟨s,5,none⟩ (.bool (lpg X m sp num).la)).setCell ⟨s,6,none⟩ (.int .u64 ((lpg X m sp num).rt:Int))=w3 at *;have hb:Blk w3 s 127 [.int .u64 id,.int .u64 (endW (beginW wd):Int),.int .i64 ((lpg X m sp num).lv:Int),.slice A4 (lpg X m sp num).xs.length c4,.string (lpg X m sp num).hi,.bool (lpg X m sp num).la,.int .u64 ((lpg X m sp num).rt:Int)]:=hb0;clear hb0;have HF:=Hd (show Rs w3 A4 c4 (lpg X m sp num).xs/\(∀ a,A4=some a->w.heap.size<=a.block)/\Kept (λ_=>False) w w3 from⟨HR4.o.keptF hks (λ a ha h=>by have h1:=HA4.o a ha;have h2:=HSS.o;omega),λ a ha=>by have h1:=HA4.o a ha;have h2:=HSS.o;omega,HK.o.trans hks (λ i hi h=>by have h2:=HSS.o;omega)⟩);clear hks HR4 HK HA4;obtain⟨q0,q1,q2,q3,q4,q5,q6⟩:=hb.c7;clear hb;refine bodyPost_ret (v:=.agg #[.int .u64 id,.int .u64 (endW (beginW wd):Int),.int .i64 ((lpg X m sp num).lv:Int),.slice A4 (lpg X m sp num).xs.length c4,.string (lpg X m sp num).hi,.bool (lpg X m sp num).la,.int .u64 ((lpg X m sp num).rt:Int)]) (by simp[results,Tryz.results93,go_sem,q0,q1,q2,q3,q4,q5,q6]) rfl ⟨A4,c4,rfl,HF.o⟩

theorem is_right1(F:Nat)(N fb fd:Int)(i id wd:Nat)(P X:Pg)(m:Nat)(sp:ByteArray)(lim:Nat)(Z:Nat->Prop)(num:Nat)(w:World)(h:IAt Z w F N fb fd i id wd P X m sp lim (.don (some num)))(hlen:(rpg X m).xs.length<=1099511627776) :
  Calls Tryz.prog 94 #[.pointer (some ⟨i,0,none⟩)] w λ e w'=>∃ A4 c4,e=.returned (.agg #[.int .u64 num,.int .u64 1,.int .i64 ((rpg X m).lv:Int),.slice A4 (rpg X m).xs.length c4,.string (rpg X m).hi,.bool (rpg X m).la,.int .u64 ((rpg X m).rt:Int)])/\Rs w' A4 c4 (rpg X m).xs/\(∀ a,A4=some a->w.heap.size<=a.block)/\Kept (λ_=>False) w w':=by
 cases h with
 | don1 h hf hw hi hzf hz hd =>
  rename_i q2 r tk Zf Zw A c A3 c3
  obtain⟨s,hs⟩:∃ s,w.heap.size=s:=⟨_,rfl⟩;have hi0:=h;go_enter Tryz.func94,Tryz.ntmps94;go_upto_region 1 with fail
  have hk0:=(Kept.refl (λ_=>False) w).alloc (.cells #[.int .u64 0,.int .u64 0,.int .i64 0,.slice none 0 0,.string ⟨#[]⟩,.bool false,.int .u64 0] 127);have HS1:=Hd (Blk.new w [.int .u64 0,.int .u64 0,.int .i64 0,.slice none 0 0,.string ⟨#[]⟩,.bool false,.int .u64 0] 127);have HSS:=Hd (show s=w.heap.size from hs.symm);replace hi0:=hk0.blk hi0 (λ h=>h);have hw1:=hf.kept hk0 kk2;rw[hs] at HS1;have HSZ:=Hd (show s<(w.alloc (.cells #[.int .u64 0,.int .u64 0,.int .i64 0,.slice none 0 0,.string ⟨#[]⟩,.bool false,.int .u64 0] 127)).heap.size from HS1.o.lt);generalize w.alloc (.cells #[.int .u64 0,.int .u64 0,.int .i64 0,.slice none 0 0,.string ⟨#[]⟩,.bool false,.int .u64 0] 127)=w1 at *;have HK:=Hd hk0;have x22:=hi0.k 22 rfl;have x24:=hi0.k 24 rfl;clear hk0 hi0 h hs;go_wp2_with fail;refine(fheld_any Zf r (frsN F N X m num) _ num 1 (rpg X m) w1 hw1 rfl hlen).mono ?_;rintro e w2 ⟨A4,c4,rfl,hR4,hA4,hK4⟩;have HR4:=Hd hR4;have HA4:=Hd (show ∀ a,A4=some a->s<a.block from λ a ha=>by have h1:=hA4 a ha;have h2:=HSZ.o;omega);replace HS1:=Hd (hK4.blk HS1.o (λ h=>h));replace HK:=Hd (HK.o.trans hK4 kk2);clear hR4 hA4 hK4 x22 x24 hw1;have hs1:=HS1.o;obtain⟨y0,y1,y2,y3,y4,y5,y6⟩:=hs1.c7;have z0:=hs1.frozen 0;have z1:=hs1.frozen 1;have z2:=hs1.frozen 2;have z3:=hs1.frozen 3;have z4:=hs1.frozen 4;have z5:=hs1.frozen 5;have z6:=hs1.frozen 6;clear hs1;go_wp2;have hks:=(((((((Kept.refl (λ k=>k=s) w2).setCell (a:=⟨s,0,none⟩) (λ_=>rfl) (.int .u64 num)).setCell (a:=⟨s,1,none⟩) (λ_=>rfl) (.int .u64 1)).setCell (a:=⟨s,2,none⟩) (λ_=>rfl) (.int .i64 ((rpg X m).lv:Int))).setCell (a:=⟨s,3,none⟩) (λ_=>rfl) (.slice A4 (rpg X m).xs.length c4)).setCell (a:=⟨s,4,none⟩) (λ_=>rfl) (.string (rpg X m).hi)).setCell (a:=⟨s,5,none⟩) (λ_=>rfl) (.bool (rpg X m).la)).setCell (a:=⟨s,6,none⟩) (λ_=>rfl) (.int .u64 ((rpg X m).rt:Int));have hb0:=(((((((HS1.o).set 0 (.int .u64 num)).set 1 (.int .u64 1)).set 2 (.int .i64 ((rpg X m).lv:Int))).set 3 (.slice A4 (rpg X m).xs.length c4)).set 4 (.string (rpg X m).hi)).set 5 (.bool (rpg X m).la)).set 6 (.int .u64 ((rpg X m).rt:Int));clear y0 z0 y1 z1 y2 z2 y3 z3 y4 z4 y5 z5 y6 z6 HS1;generalize (((((((w2).setCell ⟨s,0,none⟩ (.int .u64 num)).setCell ⟨s,1,none⟩ (.int .u64 1)).setCell ⟨s,2,none⟩ (.int .i64 ((rpg X m).lv:Int))).setCell ⟨s,3,none⟩ (.slice A4 (rpg X m).xs.length c4)).setCell ⟨s,4,none⟩ (.string (rpg X m).hi)).setCell ⟨s,5,none⟩ (.bool (rpg X m).la)).setCell ⟨s,6,none⟩ (.int .u64 ((rpg X m).rt:Int))=w3 at *;have hb:Blk w3 s 127 [.int .u64 num,.int .u64 1,.int .i64 ((rpg X m).lv:Int),.slice A4 (rpg X m).xs.length c4,.string (rpg X m).hi,.bool (rpg X m).la,.int .u64 ((rpg X m).rt:Int)]:=hb0;clear hb0;have HF:=Hd (show Rs w3 A4 c4 (rpg X m).xs/\(∀ a,A4=some a->w.heap.size<=a.block)/\Kept (λ_=>False) w w3 from⟨HR4.o.keptF hks (λ a ha h=>by have h1:=HA4.o a ha;have h2:=HSS.o;omega),λ a ha=>by have h1:=HA4.o a ha;have h2:=HSS.o;omega,HK.o.trans hks (λ i hi h=>by have h2:=HSS.o;omega)⟩);clear hks HR4 HK HA4;obtain⟨q0,q1,q2,q3,q4,q5,q6⟩:=hb.c7;clear hb;refine bodyPost_ret (v:=.agg #[.int .u64 num,.int .u64 1,.int .i64 ((rpg X m).lv:Int),.slice A4 (rpg X m).xs.length c4,.string (rpg X m).hi,.bool (rpg X m).la,.int .u64 ((rpg X m).rt:Int)]) (by simp[results,Tryz.results94,go_sem,q0,q1,q2,q3,q4,q5,q6]) rfl ⟨A4,c4,rfl,HF.o⟩

end
end Go.Proofs.YtlkgmnjceghpiaaGreat
namespace Go.Proofs.YtlkgmnjceghpiaaGreat
open Go.RowKit Go.Deep Plain
variable [Cf]
set_option linter.unusedVariables false
set_option linter.unusedSectionVars false

structure Iok(F:Nat)(N fb fd:Int)(id wd:Nat)(P X:Pg)(m:Nat)(sp:ByteArray)(lim Nv:Nat)(l0:List Cel)(K:ByteArray)(M:Int):Prop where
 lim:Lim 1 2 N Cf.C Cf.R (F:Int)
 reach:Reach3 10 fb fd
 pl:P.xs.length<=900
 plv:P.lv<9223372036854775808
 xl:2<=X.xs.length/\X.xs.length<=900
 xlv:X.lv<9223372036854775808
 word:wd<18446744073709551616
 mid:m=X.xs.length-X.xs.length / 2
 sz:∀ x∈X.xs,x.1.size<=1000
 sep:Sepr X.lv X.xs m sp
 nv:Nv<18446744073709551615
 long:4<l0.length
 cell:cellAt l0 4=((Nv:Int),K,M)
def memT(l0:List Cel)(Nv:Nat)(K:ByteArray)(M:Int):List Cel:=putAt l0 4 (((Nv+1:Nat):Int),K,M)
inductive Ipl (F:Nat) (N:Int) (id wd:Nat) (P X:Pg) (m:Nat) (sp:ByteArray) (lim Nv:Nat) (l0:List Cel) (K:ByteArray) (M:Int):Is->List Cel->Nat->Prop
 | tak0 {N0:Nat} {K0:ByteArray} {M0:Int} (hv:Nv<lim):Ipl F N id wd P X m sp lim Nv l0 K M (.tak false N0 K0 M0) l0 (2+(frsN F N X m (Nv+1)).length+(wrsN F N id wd P (lpg X m sp (Nv+1))).length)
 | none {N0:Nat} {K0:ByteArray} {M0:Int} (hv:lim<=Nv):Ipl F N id wd P X m sp lim Nv l0 K M (.tak false N0 K0 M0) l0 1
 | tak1 (hv:Nv<lim):Ipl F N id wd P X m sp lim Nv l0 K M (.tak true Nv K M) l0 (1+(frsN F N X m (Nv+1)).length+(wrsN F N id wd P (lpg X m sp (Nv+1))).length)
 | fil {j:Nat} (hv:Nv<lim) (hj:j<(frsN F N X m (Nv+1)).length):Ipl F N id wd P X m sp lim Nv l0 K M (.fil (Nv+1) j) (app (memT l0 Nv K M) ((frsN F N X m (Nv+1)).take j)) ((frsN F N X m (Nv+1)).length-j+(wrsN F N id wd P (lpg X m sp (Nv+1))).length)
 | wri1 {j:Nat} (hv:Nv<lim) (hj:j<(wrsN F N id wd P (lpg X m sp (Nv+1))).length):Ipl F N id wd P X m sp lim Nv l0 K M (.wri (some (Nv+1)) j) (app (app (memT l0 Nv K M) (frsN F N X m (Nv+1))) ((wrsN F N id wd P (lpg X m sp (Nv+1))).take j)) ((wrsN F N id wd P (lpg X m sp (Nv+1))).length-j)
 | wri0 {j:Nat} (hj:j<(wrsN F N id wd P X).length):Ipl F N id wd P X m sp lim Nv l0 K M (.wri none j) (app l0 ((wrsN F N id wd P X).take j)) ((wrsN F N id wd P X).length-j)
 | don1 (hv:Nv<lim):Ipl F N id wd P X m sp lim Nv l0 K M (.don (some (Nv+1))) (app (app (memT l0 Nv K M) (frsN F N X m (Nv+1))) (wrsN F N id wd P (lpg X m sp (Nv+1)))) 0
 | don0:Ipl F N id wd P X m sp lim Nv l0 K M (.don Option.none) (app l0 (wrsN F N id wd P X)) 0
 | ful (hv:lim<=Nv):Ipl F N id wd P X m sp lim Nv l0 K M .ful l0 0
def Is.two:Is->Bool
 | .wri Option.none _=>false
 | .don Option.none=>false
 | _=>true
section
variable {Z:Nat->Prop} {w:World} {F:Nat} {N fb fd:Int} {i id wd:Nat} {P X:Pg} {m:Nat} {sp:ByteArray} {lim Nv:Nat} {l0 l:List Cel} {K:ByteArray} {M:Int} {s:Is} {d:Nat}
theorem frsN_len(X:Pg)(m num:Nat):(frsN F N X m num).length=X.xs.length-m+4:=by unfold frsN;rw[List.length_append,pst_length,rpg_length];rfl
theorem wrsN_len(P Y:Pg):2<=(wrsN F N id wd P Y).length/\(wrsN F N id wd P Y).length<=Y.xs.length+5:=by
 unfold wrsN wsto;have h:=chg_length (pst (adr N F 10 id) P) (pst (adr N F 10 id) Y);rw[pst_length] at h;rw[List.length_append,List.length_cons];show 2<=_+1+1/\_+1+1<=_;omega
theorem sto_ex2{ss:List Sto}{j:Nat}(h:j<ss.length):∃(ad cN:Int) (cK:ByteArray) (cM:Int),ss[j]? = some (ad,cN,cK,cM):=by
 obtain⟨s,hs⟩:∃ s,ss[j]? = some s:=⟨_,List.getElem?_eq_getElem h⟩;obtain⟨ad,cN,cK,cM⟩:=s;exact⟨ad,cN,cK,cM,hs⟩
theorem ir_step(O:Iok F N fb fd id wd P X m sp lim Nv l0 K M)(h:IAt Z w F N fb fd i id wd P X m sp lim s)(I:Ipl F N id wd P X m sp lim Nv l0 K M s l d)(hd:0<d)(b g k:Nat)(hm:Mem w b g l k)(hb:¬ Z b)(hg:¬ Z g)(hk:k<9223372036854775808) :
  Calls Tryz.prog 44 #[.pointer (some ⟨i,0,none⟩),.pointer (some ⟨b,0,none⟩)] w λ e w'=>∃(s':Is) (l':List Cel),e=.returned (.bool (decide (d=1)))/\Mem w' b g l' (k+1)/\IAt (Zm Z w w') w' F N fb fd i id wd P X m sp lim s'/\Ipl F N id wd P X m sp lim Nv l0 K M s' l' (d-1)/\Kept (λ j=>Z j\/j=b\/j=g) w w'/\s'.two=s.two:=by
 have hfl:=frsN_len (F:=F) (N:=N) X m (Nv+1);have hw1:=wrsN_len (F:=F) (N:=N) (id:=id) (wd:=wd) P (lpg X m sp (Nv+1));have hw0:=wrsN_len (F:=F) (N:=N) (id:=id) (wd:=wd) P X;have hml:m<=X.xs.length:=by have:=O.mid;omega
 have hll:(lpg X m sp (Nv+1)).xs.length=m:=lpg_length hml;have hx:=O.xl;cases I with
 | tak0 hv =>
  rename_i N0 K0 M0
  refine(is_load F N fb fd i id wd P X m sp lim Z O.lim O.reach N0 Nv K0 K M0 M w h b g l0 k hm hb hg hk O.cell hv).mono ?_;rintro e w' ⟨rfl,h1,h2,h3⟩;refine⟨_,_,by rw[show decide (2+(frsN F N X m (Nv+1)).length+(wrsN F N id wd P (lpg X m sp (Nv+1))).length=1)=false from by simp;omega],h1,h2,?_,h3,rfl⟩;rw[show 2+(frsN F N X m (Nv+1)).length+(wrsN F N id wd P (lpg X m sp (Nv+1))).length-1=1+(frsN F N X m (Nv+1)).length+(wrsN F N id wd P (lpg X m sp (Nv+1))).length by omega];exact .tak1 hv
 | none hv =>
  rename_i N0 K0 M0
  refine(is_full F N fb fd i id wd P X m sp lim Z O.lim O.reach N0 Nv K0 K M0 M w h b g l0 k hm hb hg hk O.cell hv).mono ?_;rintro e w' ⟨rfl,h1,h2,h3⟩;exact⟨_,_,rfl,h1,h2,.ful hv,h3,rfl⟩
 | tak1 hv =>
  have hsw:swaps l0 4 (Nv:Int)=true:=by
   have hin:isIn l0 4=true:=by have:=O.long;unfold isIn;simp;omega
   unfold swaps;rw[hin,O.cell];simp
  refine(is_swap F N fb fd i id wd P X m sp lim Z O.lim O.reach Nv (Nv+1) K M O.nv rfl hx.1 (by omega) O.xlv O.mid O.sz O.sep w h b g l0 k hm hb hg hk hsw).mono ?_;rintro e w' ⟨rfl,h1,h2,h3⟩;refine⟨_,_,by rw[show decide (1+(frsN F N X m (Nv+1)).length+(wrsN F N id wd P (lpg X m sp (Nv+1))).length=1)=false from by simp;omega],h1,h2,?_,h3,rfl⟩;have:=Ipl.fil (F:=F) (N:=N) (id:=id) (wd:=wd) (P:=P) (X:=X) (m:=m) (sp:=sp) (lim:=lim) (Nv:=Nv) (l0:=l0) (K:=K) (M:=M) (j:=0) hv (by omega);rw[List.take_zero] at this;rw[show 1+(frsN F N X m (Nv+1)).length+(wrsN F N id wd P (lpg X m sp (Nv+1))).length-1=(frsN F N X m (Nv+1)).length-0+(wrsN F N id wd P (lpg X m sp (Nv+1))).length by omega];exact this
 | fil hv hj =>
  rename_i j
  obtain⟨ad,cN,cK,cM,hs⟩:=sto_ex2 hj;have he:=app_take (l:=memT l0 Nv K M) hs
  by_cases hl:j+1=(frsN F N X m (Nv+1)).length
  ·refine(is_filled F N fb fd i id wd P X m sp lim Z O.lim O.reach (Nv+1) j (by have:=O.pl;omega) O.plv (by omega) O.xlv O.word ad cN cM cK hs w h b g _ k hm hb hg hk hl).mono ?_
   rintro e w' ⟨rfl,h1,h2,h3⟩;refine⟨_,_,by rw[show decide ((frsN F N X m (Nv+1)).length-j+(wrsN F N id wd P (lpg X m sp (Nv+1))).length=1)=false from by simp;omega],h1,h2,?_,h3,rfl⟩;have:=Ipl.wri1 (F:=F) (N:=N) (id:=id) (wd:=wd) (P:=P) (X:=X) (m:=m) (sp:=sp) (lim:=lim) (Nv:=Nv) (l0:=l0) (K:=K) (M:=M) (j:=0) hv (by omega);rw[List.take_zero,app_nil] at this;rw[show (frsN F N X m (Nv+1)).length-j+(wrsN F N id wd P (lpg X m sp (Nv+1))).length-1=(wrsN F N id wd P (lpg X m sp (Nv+1))).length-0 by omega];have e2:putAt (app (memT l0 Nv K M) ((frsN F N X m (Nv+1)).take j)) ad (cN,cK,cM)=app (memT l0 Nv K M) (frsN F N X m (Nv+1)):=by
    have e3:=he;rw[hl,List.take_length] at e3;exact e3.symm
   rw[e2];exact this
  ·refine(is_fil F N fb fd i id wd P X m sp lim Z O.lim O.reach (Nv+1) j (by have:=O.pl;omega) O.plv (by omega) O.xlv O.word ad cN cM cK hs w h b g _ k hm hb hg hk (by omega)).mono ?_
   rintro e w' ⟨rfl,h1,h2,h3⟩;refine⟨_,_,by rw[show decide ((frsN F N X m (Nv+1)).length-j+(wrsN F N id wd P (lpg X m sp (Nv+1))).length=1)=false from by simp;omega],h1,h2,?_,h3,rfl⟩;have:=Ipl.fil (F:=F) (N:=N) (id:=id) (wd:=wd) (P:=P) (X:=X) (m:=m) (sp:=sp) (lim:=lim) (Nv:=Nv) (l0:=l0) (K:=K) (M:=M) (j:=j+1) hv (by omega);rw[he] at this;rw[show (frsN F N X m (Nv+1)).length-j+(wrsN F N id wd P (lpg X m sp (Nv+1))).length-1=(frsN F N X m (Nv+1)).length-(j+1)+(wrsN F N id wd P (lpg X m sp (Nv+1))).length by omega];exact this
 | wri1 hv hj =>
  rename_i j
  obtain⟨ad,cN,cK,cM,hs⟩:=sto_ex2 hj;have he:=app_take (l:=app (memT l0 Nv K M) (frsN F N X m (Nv+1))) hs
  by_cases hl:j+1=(wrsN F N id wd P (lpg X m sp (Nv+1))).length
  ·refine(is_written1 F N fb fd i id wd P X m sp lim Z (Nv+1) j (by omega) ad cN cM cK hs w h b g _ k hm hb hg hk hl).mono ?_
   rintro e w' ⟨rfl,h1,h2,h3⟩;refine⟨_,_,by rw[show decide ((wrsN F N id wd P (lpg X m sp (Nv+1))).length-j=1)=true from by simp;omega],h1,h2,?_,h3,rfl⟩;rw[show (wrsN F N id wd P (lpg X m sp (Nv+1))).length-j-1=0 by omega];have e2:putAt (app (app (memT l0 Nv K M) (frsN F N X m (Nv+1))) ((wrsN F N id wd P (lpg X m sp (Nv+1))).take j)) ad (cN,cK,cM)=app (app (memT l0 Nv K M) (frsN F N X m (Nv+1))) (wrsN F N id wd P (lpg X m sp (Nv+1))):=by
    have e3:=he;rw[hl,List.take_length] at e3;exact e3.symm
   rw[e2];exact .don1 hv
  ·refine(is_wri1 F N fb fd i id wd P X m sp lim Z (Nv+1) j (by omega) ad cN cM cK hs w h b g _ k hm hb hg hk (by omega)).mono ?_
   rintro e w' ⟨rfl,h1,h2,h3⟩;refine⟨_,_,by rw[show decide ((wrsN F N id wd P (lpg X m sp (Nv+1))).length-j=1)=false from by simp;omega],h1,h2,?_,h3,rfl⟩;have:=Ipl.wri1 (F:=F) (N:=N) (id:=id) (wd:=wd) (P:=P) (X:=X) (m:=m) (sp:=sp) (lim:=lim) (Nv:=Nv) (l0:=l0) (K:=K) (M:=M) (j:=j+1) hv (by omega);rw[he] at this;rw[show (wrsN F N id wd P (lpg X m sp (Nv+1))).length-j-1=(wrsN F N id wd P (lpg X m sp (Nv+1))).length-(j+1) by omega];exact this
 | wri0 hj =>
  rename_i j
  obtain⟨ad,cN,cK,cM,hs⟩:=sto_ex2 hj;have he:=app_take (l:=l0) hs
  by_cases hl:j+1=(wrsN F N id wd P X).length
  ·refine(is_written0 F N fb fd i id wd P X m sp lim Z 0 j (by omega) ad cN cM cK hs w h b g _ k hm hb hg hk hl).mono ?_
   rintro e w' ⟨rfl,h1,h2,h3⟩;refine⟨_,_,by rw[show decide ((wrsN F N id wd P X).length-j=1)=true from by simp;omega],h1,h2,?_,h3,rfl⟩;rw[show (wrsN F N id wd P X).length-j-1=0 by omega];have e2:putAt (app l0 ((wrsN F N id wd P X).take j)) ad (cN,cK,cM)=app l0 (wrsN F N id wd P X):=by
    have e3:=he;rw[hl,List.take_length] at e3;exact e3.symm
   rw[e2];exact .don0
  ·refine(is_wri0 F N fb fd i id wd P X m sp lim Z 0 j (by omega) ad cN cM cK hs w h b g _ k hm hb hg hk (by omega)).mono ?_
   rintro e w' ⟨rfl,h1,h2,h3⟩;refine⟨_,_,by rw[show decide ((wrsN F N id wd P X).length-j=1)=false from by simp;omega],h1,h2,?_,h3,rfl⟩;have:=Ipl.wri0 (F:=F) (N:=N) (id:=id) (wd:=wd) (P:=P) (X:=X) (m:=m) (sp:=sp) (lim:=lim) (Nv:=Nv) (l0:=l0) (K:=K) (M:=M) (j:=j+1) (by omega);rw[he] at this;rw[show (wrsN F N id wd P X).length-j-1=(wrsN F N id wd P X).length-(j+1) by omega];exact this
 | don1 hv=>omega
 | don0=>omega
 | ful hv=>omega
end
end Go.Proofs.YtlkgmnjceghpiaaGreat
