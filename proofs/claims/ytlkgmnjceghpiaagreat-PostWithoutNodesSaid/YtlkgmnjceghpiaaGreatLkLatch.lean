/-
  The machines Acquire and Release of package latch a step at a time. Condition: fewer than 2^63 accesses.
-/
import Derived.Test.YtlkgmnjceghpiaaGreatLkMem
import Derived.StillTailTactics
import Derived.Deep.RegionHeld3
namespace Go.Proofs.YtlkgmnjceghpiaaGreat
set_option linter.unusedVariables false
open _root_.Go.Proofs.Tryz
open Go.Value (int)
set_option maxHeartbeats 8000000
set_option maxRecDepth 100000
section
open Go.RowKit Go.Deep

def acqv(i:Int)(N:Nat)(K:ByteArray)(M:Int)(fr lk:Bool):List Value:=[int .i64 i,int .u64 N,.string K,int .u64 M,.bool fr,.bool lk]
def relv(i:Int)(N:Nat)(dn:Bool):List Value:=[int .i64 i,int .u64 N,.bool dn]
abbrev AcqB (w:World) (q:Nat) (i:Int) (N:Nat) (K:ByteArray) (M:Int) (fr lk:Bool):Prop:=Blk w q 158 (acqv i N K M fr lk)
abbrev RelB (w:World) (q:Nat) (i:Int) (N:Nat) (dn:Bool):Prop:=Blk w q 165 (relv i N dn)
theorem Mem.setFar{w:World}{b g:Nat}{l:List Cel}{k r:Nat}(h:Mem w b g l k)(hb:r≠b)(hg:r≠g)(i:Nat)(u:Value):Mem (w.setCell ⟨r,i,none⟩ u) b g l k :=
  ⟨h.obj.other (λ e=>hb e.symm) _,h.row.other (λ e=>hg e.symm) _,h.ne⟩
def Own3(q b g:Nat):Nat->Prop:=λ k=>k=q\/k=b\/k=g

theorem newAcquire_any(i:Int)(w:World) :
    Calls prog 119 #[int .i64 i] w λ e w'=>e=.returned (.pointer (some ⟨w.heap.size,0,none⟩))/\w.alloc (.cells ⟨acqv i 0 ⟨#[]⟩ 0 false false⟩ 158)=w':=by
  go_enter func119,ntmps119;go_wp2;go_ret;exact⟨rfl,rfl⟩

theorem newRelease_any(i:Int)(N:Nat)(w:World) :
    Calls prog 97 #[int .i64 i,int .u64 N] w λ e w'=>e=.returned (.pointer (some ⟨w.heap.size,0,none⟩))/\w.alloc (.cells ⟨relv i N false⟩ 165)=w':=by
  go_enter func97,ntmps97;go_wp2;go_ret;exact⟨rfl,rfl⟩

theorem word_yes(q:Nat)(i:Int)(N:Nat)(K:ByteArray)(M:Int)(fr:Bool)(w:World)(h:AcqB w q i N K M fr true)(hN:N<18446744073709551616) :
    Calls prog 123 #[.pointer (some ⟨q,0,none⟩)] w λ e w'=>e=.returned (int .u64 ((lockW N:Nat):Int))/\w=w':=by
  have c1:=h.k 1 rfl;have c5:=h.k 5 rfl;go_enter func123,ntmps123;go_wp2_with fail;refine(lock_any N hN _).mono ?_;rintro e w2 ⟨rfl,rfl⟩;go_wp2;go_ret;exact⟨rfl,rfl⟩

theorem acqLoad_any(q b g:Nat)(l:List Cel)(k:Nat)(i:Int)(N N0:Nat)(K K0:ByteArray)(M M0:Int)(fr lk:Bool)(w:World)(hq:AcqB w q i N0 K0 M0 fr lk)(h:Mem w b g l k)(hqb:q≠b)(hqg:q≠g)(hk:k<9223372036854775808)
    (hc:cellAt l i=((N:Int),K,M)) (hN:N<18446744073709551616) :
    Calls prog 121 #[.pointer (some ⟨q,0,none⟩),.pointer (some ⟨b,0,none⟩)] w λ e w'=>e=.returned (.tuple #[])/\Mem w' b g l (k+1)/\AcqB w' q i N K M (N%2==0) lk/\Kept (Own3 q b g) w w':=by
  have c0:=hq.k 0 rfl;go_enter func121,ntmps121;go_wp2_with fail;refine(load_any b g l k i N M K w h hk hc).mono ?_;rintro e w2 ⟨rfl,hM,hK⟩;have hQ:=hK.blk hq (by unfold Own;omega);have y1:=hQ.k 1 rfl;have y2:=hQ.k 2 rfl;have y3:=hQ.k 3 rfl;have y4:=hQ.k 4 rfl;have z1:=hQ.frozen 1;have z2:=hQ.frozen 2;have z3:=hQ.frozen 3;have z4:=hQ.frozen 4;have HM:=Hd hM;have HK:=Hd hK;have HQ:=Hd hQ;clear hM hK hQ c0;go_wp2_with fail;refine(locked_any N hN _).mono ?_;rintro e w3 ⟨rfl,rfl⟩;have hb:(!(N%2==1))=(N%2==0):=by rw[Bool.eq_iff_iff];simp
  go_wp2;go_end0;exact⟨rfl,(((HM.o.setFar hqb hqg _ _).setFar hqb hqg _ _).setFar hqb hqg _ _).setFar hqb hqg _ _,(((HQ.o.set 1 _).set 2 _).set 3 _).set 4 _,
    ((((HK.o.mono (λ_ h=>.inr h)).setCell (λ_=>.inl rfl) _).setCell (λ_=>.inl rfl) _).setCell (λ_=>.inl rfl) _).setCell (λ_=>.inl rfl) _⟩

theorem keepSwap{b g q r2:Nat}{W w':World}{v0 v1 v2 v3 v4:Value}(hK:Kept (Own b g) W.drew w')(hq:¬ Own b g q)(hr:¬ Own b g r2)(hql:q<W.heap.size)(hrl:r2<W.heap.size)
    (c0:W.cell? ⟨q,0,none⟩=some v0) (c1:W.cell? ⟨q,1,none⟩=some v1) (d0:W.cell? ⟨r2,0,none⟩=some v2) (d1:W.cell? ⟨r2,1,none⟩=some v3) (d2:W.cell? ⟨r2,2,none⟩=some v4) :
    w'.cell? ⟨q,0,none⟩=some v0/\w'.cell? ⟨q,1,none⟩=some v1/\w'.cell? ⟨r2,0,none⟩=some v2/\w'.cell? ⟨r2,1,none⟩=some v3/\w'.cell? ⟨r2,2,none⟩=some v4 :=
  ⟨(hK.ofDrew.cell (p:=⟨q,0,none⟩) hql hq).trans c0,(hK.ofDrew.cell (p:=⟨q,1,none⟩) hql hq).trans c1,(hK.ofDrew.cell (p:=⟨r2,0,none⟩) hrl hr).trans d0,(hK.ofDrew.cell (p:=⟨r2,1,none⟩) hrl hr).trans d1,(hK.ofDrew.cell (p:=⟨r2,2,none⟩) hrl hr).trans d2⟩
theorem keepSwap2{q r2:Nat}{w':World}{u v0 v1 v2 v3 v4:Value}(hqr:r2≠q)
    (h:w'.cell? ⟨q,0,none⟩=some v0/\w'.cell? ⟨q,1,none⟩=some v1/\w'.cell? ⟨r2,0,none⟩=some v2/\w'.cell? ⟨r2,1,none⟩=some v3/\w'.cell? ⟨r2,2,none⟩=some v4) :
    (w'.setCell ⟨q,5,none⟩ u).cell? ⟨q,0,none⟩=some v0/\(w'.setCell ⟨q,5,none⟩ u).cell? ⟨q,1,none⟩=some v1/\(w'.setCell ⟨q,5,none⟩ u).cell? ⟨r2,0,none⟩=some v2/\(w'.setCell ⟨q,5,none⟩ u).cell? ⟨r2,1,none⟩=some v3/\(w'.setCell ⟨q,5,none⟩ u).cell? ⟨r2,2,none⟩=some v4:=by
  obtain⟨h0,h1,h2,h3,h4⟩:=h;have hn:∀ o:Nat,(⟨q,5,none⟩:Addr)≠⟨r2,o,none⟩:=λ o e=>hqr (congrArg Addr.block e).symm;exact⟨(World.cell?_setCell_other _ _ _ _ (by simp)).trans h0,(World.cell?_setCell_other _ _ _ _ (by simp)).trans h1,(World.cell?_setCell_other _ _ _ _ (hn 0)).trans h2,(World.cell?_setCell_other _ _ _ _ (hn 1)).trans h3,(World.cell?_setCell_other _ _ _ _ (hn 2)).trans h4⟩

theorem acqSwap_any(q b g:Nat)(l l':List Cel)(k:Nat)(i:Int)(N:Nat)(K:ByteArray)(M:Int)(fr lk r:Bool)(w:World)(hq:AcqB w q i N K M fr lk)(h:Mem w b g l k)(hqb:q≠b)(hqg:q≠g)(hk:k<9223372036854775808)
    (hN:N<18446744073709551616) (hr:swaps l i (N:Int)=r) (hl:(if r then putAt l i (((lockW N:Nat):Int),K,M) else l)=l') :
    Calls prog 120 #[.pointer (some ⟨q,0,none⟩),.pointer (some ⟨b,0,none⟩)] w λ e w'=>e=.returned (.tuple #[])/\Mem w' b g l' (k+1)/\AcqB w' q i N K M false r/\Kept (Own3 q b g) w w':=by
  obtain⟨c0,c1,c2,c3⟩:=hq.c4;have hqlt:=hq.lt;have hblt:=h.obj.lt;have hglt:=h.row.lt;have HR:=Hd hr;have HL:=Hd hl;clear hr hl;go_enter func120,ntmps120;go_wp2_with fail;refine(lock_any N hN _).mono ?_;rintro e w2 ⟨rfl,rfl⟩;go_wp2_with fail;have hM:=h.alloc (.cells #[int .u64 ((lockW N:Nat):Int),.string K,int .u64 M] 59);have hQ:=hq.alloc (.cells #[int .u64 ((lockW N:Nat):Int),.string K,int .u64 M] 59);have hC:=Blk.new w [int .u64 ((lockW N:Nat):Int),.string K,int .u64 M] 59;have hK:=(Kept.refl (Own3 q b g) w).alloc (.cells #[int .u64 ((lockW N:Nat):Int),.string K,int .u64 M] 59);clear c0 c1 c2 c3 hq h;have c0:=hQ.k 0 rfl;have c1:=hQ.k 1 rfl;obtain⟨d0,d1,d2⟩:=hC.c3;have hqW:=hQ.lt;have hrW:=hC.lt;have hqr:w.heap.size≠q:=by omega
  have HM:=Hd hM;have HQ:=Hd hQ;have HK:=Hd hK;clear hM hQ hC hK;generalize hr2:w.heap.size=r2 at *;have Hr2:=Hd hr2;clear hr2;generalize w.alloc (.cells #[int .u64 ((lockW N:Nat):Int),.string K,int .u64 M] 59)=W at *;have hqn:¬ Own b g q:=by unfold Own;omega
  have hrn:¬ Own b g r2:=by unfold Own;omega
  go_region_held3 (λ w'=>w'.cell? ⟨q,0,none⟩=some (int .i64 i)/\w'.cell? ⟨q,1,none⟩=some (int .u64 N)/\w'.cell? ⟨r2,0,none⟩=some (int .u64 ((lockW N:Nat):Int))/\w'.cell? ⟨r2,1,none⟩=some (.string K)/\w'.cell? ⟨r2,2,none⟩=some (int .u64 M))
    (first|exact⟨c0,c1,d0,d1,d2⟩|exact keepSwap hK5 hqn hrn hqW hrW c0 c1 d0 d1 d2|exact keepSwap2 hqr (keepSwap hK5 hqn hrn hqW hrW c0 c1 d0 d1 d2))
    (first|(go_at_call 155;refine(swap_of b g l l' k i (N:Int) ((lockW N:Nat):Int) M K r _ HM.o.drew hk HR.o HL.o).mono ?_;rintro e w5 ⟨rfl,hM5,hK5⟩;have z5:=(hK5.blk HQ.o hqn).frozen 5;have y5:=(hK5.blk HQ.o hqn).k 5 rfl))
  have hQ5:=hK5.blk HQ.o hqn;have HM5:=Hd hM5;have HK5:=Hd (HK.o.drew.trans hK5 (T:=Own b g) (λ_ _ h=>.inr h));have hQ6:=hQ5.set 5 (.bool r);have y4:=hQ6.k 4 rfl;have z4:=hQ6.frozen 4;have HQ6:=Hd hQ6;clear hM5 hK5 hQ5 hQ6 HM HQ HK c0 c1 d0 d1 d2 y5 z5;go_wp2;go_end0;exact⟨rfl,(HM5.o.setFar hqb hqg _ _).setFar hqb hqg _ _,HQ6.o.set 4 _,(HK5.o.setCell (λ_=>.inl rfl) _).setCell (λ_=>.inl rfl) _⟩

theorem acqStep_load(q b g:Nat)(l:List Cel)(k:Nat)(i:Int)(N N0:Nat)(K K0:ByteArray)(M M0:Int)(w:World)(hq:AcqB w q i N0 K0 M0 false false)(h:Mem w b g l k)(hqb:q≠b)(hqg:q≠g)(hk:k<9223372036854775808)
    (hc:cellAt l i=((N:Int),K,M)) (hN:N<18446744073709551616) :
    Calls prog 73 #[.pointer (some ⟨q,0,none⟩),.pointer (some ⟨b,0,none⟩)] w λ e w'=>e=.returned (.bool false)/\Mem w' b g l (k+1)/\AcqB w' q i N K M (N%2==0) false/\Kept (Own3 q b g) w w':=by
  have c4:=hq.k 4 rfl;have c5:=hq.k 5 rfl;go_enter func73,ntmps73;go_wp2_with fail;refine(acqLoad_any q b g l k i N N0 K K0 M M0 false false w hq h hqb hqg hk hc hN).mono ?_;rintro e w2 ⟨rfl,hM,hQ,hK⟩;have y5:=hQ.k 5 rfl;have HM:=Hd hM;have HQ:=Hd hQ;have HK:=Hd hK;clear hM hQ hK c4 c5;go_wp2;go_ret;exact⟨rfl,HM.o,HQ.o,HK.o⟩

theorem acqStep_swap(q b g:Nat)(l l':List Cel)(k:Nat)(i:Int)(N:Nat)(K:ByteArray)(M:Int)(r:Bool)(w:World)(hq:AcqB w q i N K M true false)(h:Mem w b g l k)(hqb:q≠b)(hqg:q≠g)(hk:k<9223372036854775808)
    (hN:N<18446744073709551616) (hr:swaps l i (N:Int)=r) (hl:(if r then putAt l i (((lockW N:Nat):Int),K,M) else l)=l') :
    Calls prog 73 #[.pointer (some ⟨q,0,none⟩),.pointer (some ⟨b,0,none⟩)] w λ e w'=>e=.returned (.bool r)/\Mem w' b g l' (k+1)/\AcqB w' q i N K M false r/\Kept (Own3 q b g) w w':=by
  have c4:=hq.k 4 rfl;have c5:=hq.k 5 rfl;have HR:=Hd hr;have HL:=Hd hl;clear hr hl;go_enter func73,ntmps73;go_wp2_with fail;refine(acqSwap_any q b g l l' k i N K M true false r w hq h hqb hqg hk hN HR.o HL.o).mono ?_;rintro e w2 ⟨rfl,hM,hQ,hK⟩;have y5:=hQ.k 5 rfl;have HM:=Hd hM;have HQ:=Hd hQ;have HK:=Hd hK;clear hM hQ hK c4 c5;go_wp2;go_ret;exact⟨rfl,HM.o,HQ.o,HK.o⟩

theorem keepRel{b g q:Nat}{W w':World}{v0 v1:Value}(hK:Kept (Own b g) W.drew w')(hq:¬ Own b g q)(hql:q<W.heap.size)
    (c0:W.cell? ⟨q,0,none⟩=some v0) (c1:W.cell? ⟨q,1,none⟩=some v1):w'.cell? ⟨q,0,none⟩=some v0/\w'.cell? ⟨q,1,none⟩=some v1 :=
  ⟨(hK.ofDrew.cell (p:=⟨q,0,none⟩) hql hq).trans c0,(hK.ofDrew.cell (p:=⟨q,1,none⟩) hql hq).trans c1⟩

theorem relStep_any(q b g:Nat)(l:List Cel)(k:Nat)(i:Int)(N:Nat)(w:World)(hq:RelB w q i N false)(h:Mem w b g l k)(hqb:q≠b)(hqg:q≠g)(hk:k<9223372036854775808)(hN:N<18446744073709551616) :
    Calls prog 77 #[.pointer (some ⟨q,0,none⟩),.pointer (some ⟨b,0,none⟩)] w λ e w'=>e=.returned (.bool true)/\Mem w' b g (putAt l i (((unlockW N:Nat):Int),⟨#[]⟩,0)) (k+1)/\RelB w' q i N true/\Kept (Own3 q b g) w w':=by
  obtain⟨c0,c1,c2⟩:=hq.c3;have hqlt:=hq.lt;have hqn:¬ Own b g q:=by unfold Own;omega
  have HM:=Hd h;have HQ:=Hd hq;clear h hq;go_enter func77,ntmps77;go_wp2_with fail;go_region_held3 (λ w'=>w'.cell? ⟨q,0,none⟩=some (int .i64 i)/\w'.cell? ⟨q,1,none⟩=some (int .u64 N))
    (first|exact⟨c0,c1⟩|exact keepRel hK5 hqn hqlt c0 c1)
    (first | (go_at_call 126; refine (unlock_any N hN _).mono ?_; rintro e w2 ⟨rfl, rfl⟩)
           | (go_at_call 125;refine(store_any b g l k i ((unlockW N:Nat):Int) 0 ⟨#[]⟩ _ HM.o.drew hk).mono ?_;rintro e w5 ⟨rfl,hM5,hK5⟩))
  have hQ5:=hK5.blk HQ.o hqn;have HM5:=Hd hM5;have HK5:=Hd (((Kept.refl (Own3 q b g) w).drew).trans hK5 (T:=Own b g) (λ_ _ h=>.inr h));have y2:=hQ5.k 2 rfl;have z2:=hQ5.frozen 2;have HQ5:=Hd hQ5;clear hM5 hK5 hQ5 HM HQ;go_wp2;go_ret;exact⟨rfl,HM5.o.setFar hqb hqg _ _,HQ5.o.set 2 _,HK5.o.setCell (λ_=>.inl rfl) _⟩
end
end Go.Proofs.YtlkgmnjceghpiaaGreat
