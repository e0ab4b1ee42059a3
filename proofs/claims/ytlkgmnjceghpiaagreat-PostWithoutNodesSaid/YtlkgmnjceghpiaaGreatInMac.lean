/-
  Package insert: copied. Condition: none.
-/
import Derived.Test.YtlkgmnjceghpiaaGreatInPag
import Derived.Test.YtlkgmnjceghpiaaGreatLkNew
import Derived.Test.YtlkgmnjceghpiaaGreatLkAux
import Derived.Test.YtlkgmnjceghpiaaGreatLkLatch
import Derived.StillTailTactics
import Derived.Deep.RegionHeld3
namespace Go.Proofs.YtlkgmnjceghpiaaGreat
set_option maxHeartbeats 8000000
set_option maxRecDepth 100000
open Go.RowKit Go.Deep Plain
set_option linter.unusedVariables false
set_option linter.unusedSectionVars false

section
open Go.RowKit Go.Deep Plain
variable [Cf]
set_option linter.unusedVariables false
set_option linter.unusedSectionVars false

def insv(N:Int)(F:Nat)(fb fd:Int)(id wd:Nat)(P:Pg)(A:Option Addr)(c:Nat)(X:Pg)(A2:Option Addr)(c2:Nat)(ph:Int)(tk fr wr:Value)(sp:ByteArray):List Value :=
  [.int .i64 1,.int .i64 2,.int .i64 N,.int .i64 Cf.C,.int .i64 Cf.R,.int .i64 F,.int .u64 Cf.K,.int .i64 10,.int .i64 fb,.int .i64 fd,.int .u64 id,.int .u64 wd,.int .i64 P.lv,.slice A P.xs.length c,.string P.hi,.bool P.la,.int .u64 P.rt,.int .i64 X.lv,.slice A2 X.xs.length c2,.string X.hi,.bool X.la,.int .u64 X.rt,.int .i64 ph,tk,fr,wr,.string sp]
theorem icopied_any(id wd:Nat)(P:Pg)(A:Option Addr)(c:Nat)(w:World)(h40:P.xs.length<=1000)(hR:Rs w A c P.xs) :
    Calls Tryz.prog 131 #[.agg #[.int .u64 id,.int .u64 wd,.int .i64 P.lv,.slice A P.xs.length c,.string P.hi,.bool P.la,.int .u64 P.rt]] w λ e w'=>∃ A' c',e=.returned (.agg #[.int .u64 id,.int .u64 wd,.int .i64 P.lv,.slice A' P.xs.length c',.string P.hi,.bool P.la,.int .u64 P.rt])/\Rs w' A' c' P.xs/\(∀ a,A'=some a->w.heap.size<=a.block)/\Kept (λ_=>False) w w':=by
  obtain⟨P0,S0,B0,Z0⟩:=box_two w [.int .u64 id,.int .u64 wd,.int .i64 P.lv,.slice A P.xs.length c,.string P.hi,.bool P.la,.int .u64 P.rt] [.int .u64 0,.int .u64 0,.int .i64 0,.slice none 0 0,.string ⟨#[]⟩,.bool false,.int .u64 0] 127 127;have R0:=hR.below B0 (Nat.le_refl _);go_enter Tryz.func131,Tryz.ntmps131;go_wp2_with (at_builtin;go_must (refine wpList_app rfl (.const (.slice none 0 0)) (.tmp 5) rfl (w.heap.size+2) _ 0 [] rfl (World.ownsRow_nil _ _ _ _) A P.xs.length c P.xs rfl rfl R0 (by omega) (Nat.le_of_eq Z0.symm) ?_));intro v1 w1 hown hB;have P1:=P0.below hB (by omega);have S1:=S0.below hB (by omega);have HB:=Hd (Below.kept (B0.trans (hB.mono (by omega))) (S:=λ_=>False) (λ i hi h=>by omega));obtain⟨A4,c4,rfl,hl4,hR4,hA4⟩:=Rs.own hown;have HR4:=Hd hR4;have HA4:=Hd hA4;have HS1:=Hd S1;have HP1:=Hd P1;have x3:=P1.k 3 rfl;have f3:=P1.frozen 3;clear hown hB P0 S0 B0 Z0 P1 S1 R0 hR hl4 hR4 hA4;go_upto_region 2 with fail
  have hks:=(Kept.refl (λ k=>k=w.heap.size) w1).setCell (a:=⟨w.heap.size,3,none⟩) (λ_=>rfl) (.slice A4 P.xs.length c4);replace HR4:=Hd (HR4.o.keptF hks (λ a ha h=>by have:=HA4.o a ha;omega));replace HS1:=Hd (hks.blk HS1.o (by omega));replace HP1:=Hd (show Blk (w1.setCell ⟨w.heap.size,3,none⟩ (.slice A4 P.xs.length c4)) w.heap.size 127 [.int .u64 id,.int .u64 wd,.int .i64 P.lv,.slice A4 P.xs.length c4,.string P.hi,.bool P.la,.int .u64 P.rt] from HP1.o.set 3 _);replace HB:=Hd (HB.o.trans hks (λ i hi h=>by omega));clear hks x3 f3;generalize w1.setCell ⟨w.heap.size,3,none⟩ (.slice A4 P.xs.length c4)=w2 at *;have hp1:=HP1.o;have hs1:=HS1.o;obtain⟨x0,x1,x2,x3,x4,x5,x6⟩:=hp1.c7;obtain⟨y0,y1,y2,y3,y4,y5,y6⟩:=hs1.c7;have z0:=hs1.frozen 0;have z1:=hs1.frozen 1;have z2:=hs1.frozen 2;have z3:=hs1.frozen 3;have z4:=hs1.frozen 4;have z5:=hs1.frozen 5;have z6:=hs1.frozen 6;clear hp1 hs1;go_wp2;have hks:=(((((((Kept.refl (λ k=>k=w.heap.size+1) w2).setCell (a:=⟨w.heap.size+1,0,none⟩) (λ_=>rfl) (.int .u64 id)).setCell (a:=⟨w.heap.size+1,1,none⟩) (λ_=>rfl) (.int .u64 wd)).setCell (a:=⟨w.heap.size+1,2,none⟩) (λ_=>rfl) (.int .i64 P.lv)).setCell (a:=⟨w.heap.size+1,3,none⟩) (λ_=>rfl) (.slice A4 P.xs.length c4)).setCell (a:=⟨w.heap.size+1,4,none⟩) (λ_=>rfl) (.string P.hi)).setCell (a:=⟨w.heap.size+1,5,none⟩) (λ_=>rfl) (.bool P.la)).setCell (a:=⟨w.heap.size+1,6,none⟩) (λ_=>rfl) (.int .u64 P.rt);have hb0:=(((((((HS1.o).set 0 (.int .u64 id)).set 1 (.int .u64 wd)).set 2 (.int .i64 P.lv)).set 3 (.slice A4 P.xs.length c4)).set 4 (.string P.hi)).set 5 (.bool P.la)).set 6 (.int .u64 P.rt);clear x0 y0 z0 x1 y1 z1 x2 y2 z2 x3 y3 z3 x4 y4 z4 x5 y5 z5 x6 y6 z6 HS1 HP1;generalize (((((((w2).setCell ⟨w.heap.size+1,0,none⟩ (.int .u64 id)).setCell ⟨w.heap.size+1,1,none⟩ (.int .u64 wd)).setCell ⟨w.heap.size+1,2,none⟩ (.int .i64 P.lv)).setCell ⟨w.heap.size+1,3,none⟩ (.slice A4 P.xs.length c4)).setCell ⟨w.heap.size+1,4,none⟩ (.string P.hi)).setCell ⟨w.heap.size+1,5,none⟩ (.bool P.la)).setCell ⟨w.heap.size+1,6,none⟩ (.int .u64 P.rt)=w3 at *;have hb:Blk w3 (w.heap.size+1) 127 [.int .u64 id,.int .u64 wd,.int .i64 P.lv,.slice A4 P.xs.length c4,.string P.hi,.bool P.la,.int .u64 P.rt]:=hb0;clear hb0;have HF:=Hd (show Rs w3 A4 c4 P.xs/\(∀ a,A4=some a->w.heap.size<=a.block)/\Kept (λ_=>False) w w3 from⟨HR4.o.keptF hks (λ a ha h=>by have:=HA4.o a ha;omega),λ a ha=>by have:=HA4.o a ha;omega,HB.o.trans hks (λ i hi h=>by omega)⟩);clear hks HR4 HB HA4;obtain⟨q0,q1,q2,q3,q4,q5,q6⟩:=hb.c7;clear hb;refine bodyPost_ret (v:=.agg #[.int .u64 id,.int .u64 wd,.int .i64 P.lv,.slice A4 P.xs.length c4,.string P.hi,.bool P.la,.int .u64 P.rt]) (by simp[results,Tryz.results131,go_sem,q0,q1,q2,q3,q4,q5,q6]) rfl ⟨A4,c4,rfl,HF.o⟩

end
end Go.Proofs.YtlkgmnjceghpiaaGreat
namespace Go.Proofs.YtlkgmnjceghpiaaGreat
section
open Go.RowKit Go.Deep
set_option linter.unusedVariables false
set_option linter.unusedSectionVars false

def macv(i:Int)(N:Nat)(K:ByteArray)(M:Int)(ld:Bool)(lim:Nat)(tk fin:Bool):List Value :=
  [.int .i64 i,.int .u64 N,.string K,.int .u64 M,.bool ld,.int .u64 lim,.bool tk,.bool fin]
theorem newTake_any(i:Int)(lim:Nat)(w:World) :
    Calls Tryz.prog 134 #[.int .i64 i,.int .u64 lim] w λ e w'=>e=.returned (.pointer (some ⟨w.heap.size,0,none⟩))/\w.alloc (.cells ⟨macv i 0 ⟨#[]⟩ 0 false lim false false⟩ 178)=w':=by
  go_enter Tryz.func134,Tryz.ntmps134;go_wp2;go_ret;exact⟨rfl,rfl⟩

theorem next_any(q:Nat)(t:TypeId)(i:Int)(N:Nat)(K:ByteArray)(M:Int)(ld tk fin:Bool)(lim:Nat)(w:World)(h:Blk w q t (macv i N K M ld lim tk fin))(hN:N<18446744073709551615) :
    Calls Tryz.prog 136 #[.pointer (some ⟨q,0,none⟩)] w λ e w'=>e=.returned (.int .u64 ((N+1:Nat):Int))/\w=w':=by
  have c1:=h.k 1 rfl;go_enter Tryz.func136,Tryz.ntmps136;go_wp2;go_ret;exact⟨rfl,rfl⟩

theorem number_yes(q:Nat)(t:TypeId)(i:Int)(N:Nat)(K:ByteArray)(M:Int)(ld fin:Bool)(lim:Nat)(w:World)(h:Blk w q t (macv i N K M ld lim true fin))(hN:N<18446744073709551615) :
    Calls Tryz.prog 138 #[.pointer (some ⟨q,0,none⟩)] w λ e w'=>e=.returned (.tuple #[.int .u64 ((N+1:Nat):Int),.bool true])/\w=w':=by
  have c6:=h.k 6 rfl;go_enter Tryz.func138,Tryz.ntmps138;go_wp2_with fail;refine(next_any q t i N K M ld true fin lim _ h hN).mono ?_;rintro e w2 ⟨rfl,rfl⟩;go_wp2;go_ret2;exact⟨rfl,rfl⟩

theorem number_no(q:Nat)(t:TypeId)(i:Int)(N:Nat)(K:ByteArray)(M:Int)(ld fin:Bool)(lim:Nat)(w:World)(h:Blk w q t (macv i N K M ld lim false fin)) :
    Calls Tryz.prog 138 #[.pointer (some ⟨q,0,none⟩)] w λ e w'=>e=.returned (.tuple #[.int .u64 0,.bool false])/\w=w':=by
  have c6:=h.k 6 rfl;go_enter Tryz.func138,Tryz.ntmps138;go_wp2;go_ret2;exact⟨rfl,rfl⟩

theorem tload_any(q b g:Nat)(t:TypeId)(l:List Cel)(k:Nat)(i:Int)(N N0:Nat)(K K0:ByteArray)(M M0:Int)(ld tk fin:Bool)(lim:Nat)(w:World)(hq:Blk w q t (macv i N0 K0 M0 ld lim tk fin))(h:Mem w b g l k)(hqb:q≠b)(hqg:q≠g)(hk:k<9223372036854775808)
    (hc:cellAt l i=((N:Int),K,M)) :
    Calls Tryz.prog 137 #[.pointer (some ⟨q,0,none⟩),.pointer (some ⟨b,0,none⟩)] w λ e w'=>e=.returned (.int .u64 N)/\Mem w' b g l (k+1)/\Blk w' q t (macv i N K M true lim tk fin)/\Kept (Own3 q b g) w w':=by
  have c0:=hq.k 0 rfl;go_enter Tryz.func137,Tryz.ntmps137;go_wp2_with fail;refine(load_any b g l k i N M K w h hk hc).mono ?_;rintro e w2 ⟨rfl,hM,hK⟩;have hQ:=hK.blk hq (by unfold Own;omega);have y1:=hQ.k 1 rfl;have y2:=hQ.k 2 rfl;have y3:=hQ.k 3 rfl;have y4:=hQ.k 4 rfl;have z1:=hQ.frozen 1;have z2:=hQ.frozen 2;have z3:=hQ.frozen 3;have z4:=hQ.frozen 4;have HM:=Hd hM;have HK:=Hd hK;have HQ:=Hd hQ;clear hM hK hQ c0;go_wp2;go_ret;exact⟨rfl,(((HM.o.setFar hqb hqg _ _).setFar hqb hqg _ _).setFar hqb hqg _ _).setFar hqb hqg _ _,(((HQ.o.set 1 _).set 2 _).set 3 _).set 4 _,
    ((((HK.o.mono (λ_ h=>.inr h)).setCell (λ_=>.inl rfl) _).setCell (λ_=>.inl rfl) _).setCell (λ_=>.inl rfl) _).setCell (λ_=>.inl rfl) _⟩

theorem tkeepSwap{b g q r2:Nat}{W w':World}{v0 v1 v2 v3 v4:Value}(hK:Kept (Own b g) W.drew w')(hq:¬ Own b g q)(hr:¬ Own b g r2)(hql:q<W.heap.size)(hrl:r2<W.heap.size)
    (c0:W.cell? ⟨q,0,none⟩=some v0) (c1:W.cell? ⟨q,1,none⟩=some v1) (d0:W.cell? ⟨r2,0,none⟩=some v2) (d1:W.cell? ⟨r2,1,none⟩=some v3) (d2:W.cell? ⟨r2,2,none⟩=some v4) :
    w'.cell? ⟨q,0,none⟩=some v0/\w'.cell? ⟨q,1,none⟩=some v1/\w'.cell? ⟨r2,0,none⟩=some v2/\w'.cell? ⟨r2,1,none⟩=some v3/\w'.cell? ⟨r2,2,none⟩=some v4 :=
  ⟨(hK.ofDrew.cell (p:=⟨q,0,none⟩) hql hq).trans c0,(hK.ofDrew.cell (p:=⟨q,1,none⟩) hql hq).trans c1,(hK.ofDrew.cell (p:=⟨r2,0,none⟩) hrl hr).trans d0,(hK.ofDrew.cell (p:=⟨r2,1,none⟩) hrl hr).trans d1,(hK.ofDrew.cell (p:=⟨r2,2,none⟩) hrl hr).trans d2⟩

theorem tswap_any(q b g:Nat)(t:TypeId)(l l':List Cel)(k:Nat)(i:Int)(N X:Nat)(K:ByteArray)(M:Int)(ld tk fin r:Bool)(lim:Nat)(w:World)(hq:Blk w q t (macv i N K M ld lim tk fin))(h:Mem w b g l k)(hqb:q≠b)(hqg:q≠g)(hk:k<9223372036854775808)
    (hr:swaps l i (N:Int)=r) (hl:(if r then putAt l i ((X:Int),K,M) else l)=l') :
    Calls Tryz.prog 135 #[.pointer (some ⟨q,0,none⟩),.pointer (some ⟨b,0,none⟩),.int .u64 X] w λ e w'=>e=.returned (.bool r)/\Mem w' b g l' (k+1)/\Blk w' q t (macv i N K M false lim tk fin)/\Kept (Own3 q b g) w w':=by
  obtain⟨c0,c1,c2,c3,c4⟩:=hq.c5;have f4:=hq.frozen 4;have hqlt:=hq.lt;have hblt:=h.obj.lt;have hglt:=h.row.lt;have HR:=Hd hr;have HL:=Hd hl;clear hr hl;go_enter Tryz.func135,Tryz.ntmps135;go_wp2_with fail;have hM:=(h.setFar hqb hqg 4 (.bool false)).alloc (.cells #[.int .u64 X,.string K,.int .u64 M] 59);have hQ:=(hq.set 4 (.bool false)).alloc (.cells #[.int .u64 X,.string K,.int .u64 M] 59);have hC:=Blk.new (w.setCell ⟨q,4,none⟩ (.bool false)) [.int .u64 X,.string K,.int .u64 M] 59;have hK:=((Kept.refl (Own3 q b g) w).setCell (a:=⟨q,4,none⟩) (λ_=>.inl rfl) (.bool false)).alloc (.cells #[.int .u64 X,.string K,.int .u64 M] 59);have hsz:(w.setCell ⟨q,4,none⟩ (.bool false)).heap.size=w.heap.size:=by simp[World.setCell]
  rw[hsz] at hC;clear c0 c1 c2 c3 c4 f4 hq h hsz;have c0:=hQ.k 0 rfl;have c1:=hQ.k 1 rfl;obtain⟨d0,d1,d2⟩:=hC.c3;have hqW:=hQ.lt;have hrW:=hC.lt;have HM:=Hd hM;have HQ:=Hd hQ;have HK:=Hd hK;clear hM hQ hC hK;generalize hr2:w.heap.size=r2 at *;have Hr2:=Hd hr2;clear hr2;generalize (w.setCell ⟨q,4,none⟩ (.bool false)).alloc (.cells #[.int .u64 X,.string K,.int .u64 M] 59)=W at *;have hqn:¬ Own b g q:=by unfold Own;omega
  have hrn:¬ Own b g r2:=by unfold Own;omega
  go_region_held3 (λ w'=>w'.cell? ⟨q,0,none⟩=some (.int .i64 i)/\w'.cell? ⟨q,1,none⟩=some (.int .u64 N)/\w'.cell? ⟨r2,0,none⟩=some (.int .u64 X)/\w'.cell? ⟨r2,1,none⟩=some (.string K)/\w'.cell? ⟨r2,2,none⟩=some (.int .u64 M))
    (first|exact⟨c0,c1,d0,d1,d2⟩|exact tkeepSwap hK5 hqn hrn hqW hrW c0 c1 d0 d1 d2)
    (first|(go_at_call 155;refine(swap_of b g l l' k i (N:Int) (X:Int) M K r _ HM.o.drew hk HR.o HL.o).mono ?_;rintro e w5 ⟨rfl,hM5,hK5⟩))
  have HQ5:=Hd (hK5.blk HQ.o hqn);have HM5:=Hd hM5;have HK5:=Hd (HK.o.drew.trans hK5 (T:=Own b g) (λ_ _ h=>.inr h));clear hM5 hK5 HM HQ HK c0 c1 d0 d1 d2;go_wp2;go_ret;exact⟨rfl,HM5.o,HQ5.o,HK5.o⟩

theorem takeStep_load(q b g:Nat)(l:List Cel)(k:Nat)(i:Int)(N N0:Nat)(K K0:ByteArray)(M M0:Int)(r:Bool)(lim:Nat)(w:World)(hq:Blk w q 178 (macv i N0 K0 M0 false lim false false))(h:Mem w b g l k)(hqb:q≠b)(hqg:q≠g)(hk:k<9223372036854775808)
    (hc:cellAt l i=((N:Int),K,M)) (hr:decide (lim<=N)=r) :
    Calls Tryz.prog 86 #[.pointer (some ⟨q,0,none⟩),.pointer (some ⟨b,0,none⟩)] w λ e w'=>e=.returned (.bool r)/\Mem w' b g l (k+1)/\Blk w' q 178 (macv i N K M true lim false r)/\Kept (Own3 q b g) w w':=by
  have c4:=hq.k 4 rfl;have c5:=hq.k 5 rfl;have c7:=hq.k 7 rfl;have f7:=hq.frozen 7;have hqlt:=hq.lt;have HR:=Hd hr;have H1:=Hd hq;have H2:=Hd h;clear hr hq h;go_enter Tryz.func86,Tryz.ntmps86;go_wp2_with fail;clear c4 c7;go_region_held3 (λ w'=>w'.cell? ⟨q,5,none⟩=some (.int .u64 lim))
    (first|exact c5|exact hQ5.k 5 rfl|exact(hQ5.set 7 _).k 5 rfl)
    (first|(go_at_call 137;refine(tload_any q b g _ l k i N N0 K K0 M M0 false false false lim _ (by first|exact H1.o|exact(H1.o).of rfl) (by first|exact H2.o|exact H2.o.drew) hqb hqg hk hc).mono ?_;rintro e w5 ⟨rfl,hM5,hQ5,hK5⟩;have z7:=hQ5.frozen 7;have y7:=hQ5.k 7 rfl))
  rw[HR.o];have hQ6:=hQ5.set 7 (.bool r);have HM5:=Hd hM5;have HK5:=Hd hK5;have x7:=hQ6.k 7 rfl;have HQ6:=Hd hQ6;clear hM5 hK5 hQ5 hQ6 y7 z7 c5 H1 H2;go_wp2;go_ret;exact⟨rfl,HM5.o.setFar hqb hqg _ _,HQ6.o,HK5.o.ofDrew.setCell (λ_=>.inl rfl) _⟩

theorem takeStep_swap(q b g:Nat)(l l':List Cel)(k:Nat)(i:Int)(N:Nat)(K:ByteArray)(M:Int)(r:Bool)(lim:Nat)(w:World)(hq:Blk w q 178 (macv i N K M true lim false false))(h:Mem w b g l k)(hqb:q≠b)(hqg:q≠g)(hk:k<9223372036854775808)
    (hN:N<18446744073709551615) (hr:swaps l i (N:Int)=r) (hl:(if r then putAt l i (((N+1:Nat):Int),K,M) else l)=l') :
    Calls Tryz.prog 86 #[.pointer (some ⟨q,0,none⟩),.pointer (some ⟨b,0,none⟩)] w λ e w'=>e=.returned (.bool r)/\Mem w' b g l' (k+1)/\Blk w' q 178 (macv i N K M false lim r r)/\Kept (Own3 q b g) w w':=by
  have c4:=hq.k 4 rfl;have c5:=hq.k 5 rfl;have c7:=hq.k 7 rfl;have hqlt:=hq.lt;have HR:=Hd hr;have HL:=Hd hl;have H1:=Hd hq;have H2:=Hd h;clear hr hl hq h;go_enter Tryz.func86,Tryz.ntmps86;go_wp2_with fail;clear c4 c7;go_region_held3 (λ w'=>w'.cell? ⟨q,5,none⟩=some (.int .u64 lim))
    (first|exact c5|exact hQ5.k 5 rfl|exact(hQ5.set 6 _).k 5 rfl)
    (first | (go_at_call 136; refine (next_any q _ i N K M true false false lim _ (by first | exact H1.o | exact (H1.o).of rfl) hN).mono ?_; rintro e w2 ⟨rfl, rfl⟩)
           | (go_at_call 135;refine(tswap_any q b g _ l l' k i N _ K M true false false r lim _ (by first|exact H1.o|exact(H1.o).of rfl) (by first|exact H2.o|exact H2.o.drew) hqb hqg hk HR.o HL.o).mono ?_;rintro e w5 ⟨rfl,hM5,hQ5,hK5⟩;have z6:=hQ5.frozen 6;have y6:=hQ5.k 6 rfl))
  have hQ6:=hQ5.set 6 (.bool r);have HM5:=Hd (hM5.setFar hqb hqg 6 (.bool r));have HK5:=Hd (hK5.ofDrew.setCell (a:=⟨q,6,none⟩) (λ_=>.inl rfl) (.bool r));have x6:=hQ6.k 6 rfl;have x7:=hQ6.k 7 rfl;have v7:=hQ6.frozen 7;have HQ6:=Hd hQ6;clear hM5 hK5 hQ5 hQ6 y6 z6 c5 H1 H2;go_wp2;go_ret;exact⟨rfl,HM5.o.setFar hqb hqg _ _,HQ6.o.set 7 _,HK5.o.setCell (λ_=>.inl rfl) _⟩
end
end Go.Proofs.YtlkgmnjceghpiaaGreat
namespace Go.Proofs.YtlkgmnjceghpiaaGreat
open Go.RowKit Go.Deep Plain
set_option linter.unusedVariables false
set_option linter.unusedSectionVars false

section
open Go.RowKit Go.Deep Plain
variable [Cf]
set_option linter.unusedVariables false
set_option linter.unusedSectionVars false

theorem ichange_any(N:Int)(F:Nat)(fb fd:Int)(hl:Lim 1 2 N Cf.C Cf.R (F:Int))(hd:Reach3 10 fb fd)(i id wd:Nat)(P X:Pg)(A:Option Addr)(c:Nat)(A2:Option Addr)(c2:Nat)(ph:Int)(tk fr wp:Value)(sp:ByteArray)(w:World)(h:Blk w i 136 (insv N F fb fd id wd P A c X A2 c2 ph tk fr wp sp))(hP:P.xs.length<=1000)(hX:X.xs.length<=1000)(hPl:P.lv<9223372036854775808)(hXl:X.lv<9223372036854775808)(hwd:wd<18446744073709551616)(hR:Rs w A c P.xs)(hR2:Rs w A2 c2 X.xs) :
    Calls Tryz.prog 91 #[.pointer (some ⟨i,0,none⟩)] w λ e w'=>e=.returned (.tuple #[])/\∃(q:Nat) (Zw:Nat->Prop),Blk w' i 136 (insv N F fb fd id wd P A c X A2 c2 2 tk fr (.pointer (some ⟨q,0,none⟩)) sp)/\Stm Zw w' q 192 (wsto (nodeAt N (F:Int) 10 (id:Int) 0) (beginW wd) (endW (beginW wd)) (chg (pst (adr N F 10 id) P) (pst (adr N F 10 id) X))) 0 id (endW (beginW wd)) X/\(∀ k,Zw k->w.heap.size<=k)/\Kept (λ k=>k=i) w w':=by
  have HI:=Hd h;have HR:=Hd hR;have HR2:=Hd hR2;clear h hR hR2;go_enter Tryz.func91,Tryz.ntmps91;refine wp_region_held_drew (S:=(λ w'=>Kept (λ k=>k=i) w w'/\∃(ph':Int) (wp':Value),Blk w' i 136 (insv N F fb fd id wd P A c X A2 c2 ph' tk fr wp' sp))) (by kernel_rfl) ?_ (λ hH=>?_)
  · exact⟨(Kept.refl _ _).drew,ph,wp,((Kept.refl (λ_=>False) w).drew).blk HI.o (λ h=>h)⟩
  have HW:=Hd ((Kept.refl (λ k=>k=i) w).drew);have hdr:=(Kept.refl (λ_=>False) w).drew;replace HI:=Hd (hdr.blk HI.o (λ h=>h));replace HR:=Hd (HR.o.keptF hdr kk2);replace HR2:=Hd (HR2.o.keptF hdr kk2);clear hdr;generalize w.drew=G at *;refine tkI 0 2 hH ?_;refine tkI 1 3 hH ?_;refine tkI 2 4 hH ?_;refine tkI 3 5 hH ?_;refine tkI 4 6 hH ?_;refine tkI 5 7 hH ?_ (hv:=by intro wq hSw;obtain⟨ph9,wp9,hb9⟩:=hSw.2;have y27:=hb9.c22;clear hb9;exact qq1);refine tkI 6 8 hH ?_;refine tkI 7 9 hH ?_;refine tkI 8 10 hH ?_;refine tkI 9 11 hH ?_ (hv:=by intro wq hSw;obtain⟨ph9,wp9,hb9⟩:=hSw.2;have y27:=hb9.c22;clear hb9;exact qq1);refine tkI 10 12 hH ?_;refine tkI 11 13 hH ?_;refine tkI 12 14 hH ?_;refine tkI 13 15 hH ?_ (hv:=by intro wq hSw;obtain⟨ph9,wp9,hb9⟩:=hSw.2;have y27:=hb9.c22;clear hb9;exact qq1);refine rdH 14 (some 16) rfl λ KK hK=>?_;go_simp;go_at_call 144;refine(newWrite_any 1 2 N Cf.C Cf.R F Cf.K 10 fb fd hl hd id wd P.lv A c P.hi P.la P.rt P.xs X.lv A2 c2 X.hi X.la X.rt X.xs _ P.xs.length X.xs.length rfl rfl hP hX hPl hXl hwd HR.o HR2.o).mono ?_;rintro e G1 ⟨q,Zw,rfl,hS,hZ,hK⟩;have HS:=Hd (show Stm Zw G1 q 192 (wsto (nodeAt N (F:Int) 10 (id:Int) 0) (beginW wd) (endW (beginW wd)) (chg (pst (adr N F 10 id) P) (pst (adr N F 10 id) X))) 0 id (endW (beginW wd)) X from hS);have HZ:=Hd (show ∀ k,Zw k->w.heap.size<=k from λ k hk=>Nat.le_trans HW.o.size (hZ k hk));have HIL:=Hd (show ∀ k,Zw k->k≠i from λ k hk e=>by have h1:=hZ k hk;have h2:=HI.o.lt;omega);replace HI:=Hd (hK.blk HI.o (λ h=>h));replace HW:=Hd (HW.o.trans hK (λ_ _ h=>h.elim));clear hS hZ hK HR HR2;rename World=>G;refine hkO hK ⟨HW.o,ph,wp,HI.o⟩ λ h2=>?_;replace hH:=h2;clear hK KK h2
  refine tkI 15 17 hH ?_;refine tkI 16 18 hH ?_;refine rdH 17 none rfl λ KK hK=>?_;have hs9:=HI.o;have s9:=hs9.k 25 rfl;have z9:=hs9.frozen 25;clear hs9;go_simp;have hks:=(Kept.refl (λ k=>k=i) G).setCell (a:=⟨i,25,none⟩) (λ_=>rfl) (.pointer (some ⟨q,0,none⟩));replace HI:=Hd (show Blk (G.setCell ⟨i,25,none⟩ (.pointer (some ⟨q,0,none⟩))) i 136 (insv N F fb fd id wd P A c X A2 c2 ph tk fr (.pointer (some ⟨q,0,none⟩)) sp) from HI.o.set 25 (.pointer (some ⟨q,0,none⟩)));replace HW:=Hd (HW.o.trans hks kk2);replace HS:=Hd (HS.o.kept hks (λ k hk h=>HIL.o k hk h));clear s9 z9 hks;generalize G.setCell ⟨i,25,none⟩ (.pointer (some ⟨q,0,none⟩))=G at *;refine hkO hK ⟨HW.o,ph,_,HI.o⟩ λ h2=>?_;replace hH:=h2;clear hK KK h2
  refine tkI 18 19 hH ?_;refine tkI 19 20 hH ?_;refine rdH 20 none rfl λ KK hK=>?_;have hs9:=HI.o;have s9:=hs9.k 22 rfl;have z9:=hs9.frozen 22;clear hs9;go_simp;have hks:=(Kept.refl (λ k=>k=i) G).setCell (a:=⟨i,22,none⟩) (λ_=>rfl) (.int .i64 2);replace HI:=Hd (show Blk (G.setCell ⟨i,22,none⟩ (.int .i64 2)) i 136 (insv N F fb fd id wd P A c X A2 c2 2 tk fr (.pointer (some ⟨q,0,none⟩)) sp) from HI.o.set 22 (.int .i64 2));replace HW:=Hd (HW.o.trans hks kk2);replace HS:=Hd (HS.o.kept hks (λ k hk h=>HIL.o k hk h));clear s9 z9 hks;generalize G.setCell ⟨i,22,none⟩ (.int .i64 2)=G at *;refine hkO hK ⟨HW.o,2,_,HI.o⟩ λ h2=>?_;replace hH:=h2;clear hK KK h2
  refine dnH ?_;clear hH;go_wp2;go_end0;exact⟨rfl,q,Zw,HI.o,HS.o,HZ.o,HW.o⟩

end
end Go.Proofs.YtlkgmnjceghpiaaGreat
