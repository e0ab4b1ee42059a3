/-
 The machines Read and Own of package node a step at a time. Condition: a layout within its limits;fewer than 2^63 accesses.
-/
import Derived.Test.YtlkgmnjceghpiaaGreatLkNode
import Derived.Test.YtlkgmnjceghpiaaGreatLkMem
import Derived.Test.YtlkgmnjceghpiaaGreatLkPag
namespace Go.Proofs.YtlkgmnjceghpiaaGreat
open Go.RowKit Go.Deep Plain
set_option linter.unusedSectionVars false
set_option linter.unusedVariables false
open _root_.Go.Proofs.Tryz
open Go.Value (int)
set_option maxHeartbeats 8000000
set_option maxRecDepth 100000
section

theorem latch_to(T S N C R:Int)(F:Nat)(K fa fb fd:Int)(hl:Lim T S N C R (F:Int))(hd:Reach3 fa fb fd)(n v:Int)(hv:nodeAt N (F:Int) fa n 0=v)(w:World) :
  Calls prog 98 #[.agg #[int .i64 T,int .i64 S,int .i64 N,int .i64 C,int .i64 R,int .i64 F,int .u64 K,int .i64 fa,int .i64 fb,int .i64 fd],int .u64 n] w λ e w'=>e=.returned (int .i64 v)/\Kept (λ_=>False) w w':=by
 have:=latch_any T S N C R (F:Int) K fa fb fd n hl hd w;rwa [hv] at this
theorem keepOwn{Z:Nat->Prop}{b g:Nat}(hb:¬ Z b)(hg:¬ Z g):∀ i,Z i->¬ Own b g i:=λ i hi e=>by
 rcases e with rfl|rfl
 ·exact hb hi
 ·exact hg hi

theorem loadLatch_any(T S N C R:Int)(F:Nat)(K fa fb fd:Int)(hl:Lim T S N C R (F:Int))(hd:Reach3 fa fb fd)(q nid rd en lv:Nat)(v:Value)(hi:ByteArray)(la:Bool)(rt:Nat)(tl:List Value)(w:World)(h:Blk w q 196 (conv T S N C R F K fa fb fd nid rd en lv v hi la rt tl))(b g:Nat)(l:List Cel)(k:Nat)(hm:Mem w b g l k)(hk:k<9223372036854775808)(ad:Int)(had:nodeAt N (F:Int) fa (nid:Int) 0=ad)(nN mM:Nat)(kK:ByteArray)(hc:cellAt l ad=((nN:Int),kK,(mM:Int)))(hN:nN<18446744073709551616) :
  Calls prog 169 #[.pointer (some ⟨q,0,none⟩),.pointer (some ⟨b,0,none⟩)] w λ e w'=>e=.returned (int .u64 nN)/\Mem w' b g l (k+1)/\Kept (Own b g) w w':=by
 have HB:=Hd h;have HM:=Hd hm;have HC:=Hd hc;have hfd:=field0 (nN:Int) (mM:Int) kK;clear h hm hc;go_enter func169,ntmps169;go_wp2_with fail;refine qtail 12 (λ w'=>Kept (λ_=>False) w w'/\Blk w' q 196 (conv T S N C R F K fa fb fd nid rd en lv v hi la rt tl)) (by kernel_rfl) (by kernel_rfl) ⟨(Kept.refl _ _).drew,HB.o⟩ ?_;simp only[List.take_succ_cons,List.take_zero,List.drop_succ_cons,List.drop_zero];refine tkP 5 ?_;refine tkP 6 ?_;refine tkP 7 ?_;refine tkP 8 ?_;refine tkP 9 ?_;refine tkP 10 ?_ (by intro wq hSw;have y0:=(hSw.2).c11;exact qq1);refine tkP 11 ?_;refine tkP 12 ?_;refine tkP 13 ?_;refine tkP 14 ?_;refine tkP 15 ?_ (by intro wq hSw;have y0:=(hSw.2).c11;exact qq1);refine qcall (o:=⟨some 16,_,_,_,_,_⟩) (v:=int .i64 ad) (by rfl) (λ wq hSw=>?_) (λ wq hSw=>Calls.mono (latch_to T S N C R F K fa fb fd hl hd (nid:Int) ad had _) ?_) ?_
 ·(go_simp;try with_reducible rfl)
 ·rintro e w9 ⟨rfl,hk⟩;exact⟨rfl,hSw.1.trans hk kk2,hk.blk hSw.2 id⟩
 try simp only[aP,aA,aZ,aS]
 refine wpQuiet_nil ?_;intro wz hH;obtain⟨hK, -⟩:=hH;have HM1:=Hd (HM.o.kept hK id id);have HK1:=Hd hK;clear hK HM HB;go_wp2_with fail;refine(load_any b g l k ad (nN:Int) (mM:Int) kK _ HM1.o hk HC.o).mono ?_;rintro e w2 ⟨rfl,hM2,hK2⟩;have HM2:=Hd hM2;have HK2:=Hd ((HK1.o.mono (T:=Own b g) (λ_ h=>h.elim)).trans hK2 kk2);clear hM2 hK2 HM1 HK1 HC;go_wp2;go_ret;exact⟨rfl,HM2.o,HK2.o⟩

theorem begin_true(Z:Nat->Prop)(T S N C R:Int)(F:Nat)(K fa fb fd:Int)(hl:Lim T S N C R (F:Int))(hd:Reach3 fa fb fd)(q nid:Nat)(s:Cs)(wd ph:Nat)(w:World)(h:Con Z w T S N C R F K fa fb fd q 196 nid s [int .u64 wd,int .i64 ph])(b g:Nat)(l:List Cel)(k:Nat)(hm:Mem w b g l k)(hb:¬ Z b)(hg:¬ Z g)(hk:k<9223372036854775808)(ad:Int)(had:nodeAt N (F:Int) fa (nid:Int) 0=ad)(nN mM:Nat)(kK:ByteArray)(hc:cellAt l ad=((nN:Int),kK,(mM:Int)))(hN:nN<18446744073709551616)(hch:(nN / 2%2==1)=true) :
  Calls prog 149 #[.pointer (some ⟨q,0,none⟩),.pointer (some ⟨b,0,none⟩)] w λ e w'=>e=.returned (.tuple #[])/\Mem w' b g l (k+1)/\Con Z w' T S N C R F K fa fb fd q 196 nid s [int .u64 nN,int .i64 ph]/\Kept (λ i=>Z i\/i=b\/i=g) w w':=by
 obtain⟨v,h1,h2,h3⟩:=h.ex;have HH:=Hd h;have HM:=Hd hm;have HC:=Hd hc;have HB:=Hd h1;have HCH:=Hd hch;clear h hm hc h1 h2 h3 hch;go_enter func149,ntmps149;go_wp2_with fail;refine(loadLatch_any T S N C R F K fa fb fd hl hd q nid s.rd s.en s.lv v s.hi s.la s.rt _ _ HB.o b g l k HM.o hk ad had nN mM kK HC.o hN).mono ?_;rintro e w1 ⟨rfl,hM1,hK1⟩;have hH1:=HH.o.kept hK1 (keepOwn hb hg);obtain⟨v1,h11,h21,h31⟩:=hH1.ex;have x18:=h11.k 18 rfl;have z18:=h11.frozen 18;have hqb:q≠b:=λ e=>hb (e ▸ HH.o.own);have hqg:q≠g:=λ e=>hg (e ▸ HH.o.own);have HT:=Hd (show Con Z (w1.setCell ⟨q,18,none⟩ (int .u64 nN)) T S N C R F K fa fb fd q 196 nid s [int .u64 nN,int .i64 ph] from hH1.setTail (by decide) 0 (int .u64 nN));have HM2:=Hd (hM1.farq (q:=q) (by unfold Own;omega) 18 (int .u64 nN));have HK2:=Hd ((hK1.mono (T:=λ i=>Z i\/i=b\/i=g) (λ i e=>.inr e)).setCell (a:=⟨q,18,none⟩) (λ_=>.inl HH.o.own) (int .u64 nN));clear hM1 hK1 hH1 h11 h21 h31 HM HC HB HH;go_wp2_with fail;refine(changing_of nN true hN HCH.o _).mono ?_;rintro e w2 ⟨rfl,rfl⟩;go_wp2;go_end0;exact⟨rfl,HM2.o,HT.o,HK2.o⟩

theorem begin_false(Z:Nat->Prop)(T S N C R:Int)(F:Nat)(K fa fb fd:Int)(hl:Lim T S N C R (F:Int))(hd:Reach3 fa fb fd)(q nid:Nat)(s:Cs)(wd ph:Nat)(w:World)(h:Con Z w T S N C R F K fa fb fd q 196 nid s [int .u64 wd,int .i64 ph])(b g:Nat)(l:List Cel)(k:Nat)(hm:Mem w b g l k)(hb:¬ Z b)(hg:¬ Z g)(hk:k<9223372036854775808)(ad:Int)(had:nodeAt N (F:Int) fa (nid:Int) 0=ad)(nN mM:Nat)(kK:ByteArray)(hc:cellAt l ad=((nN:Int),kK,(mM:Int)))(hN:nN<18446744073709551616)(hch:(nN / 2%2==1)=false) :
  Calls prog 149 #[.pointer (some ⟨q,0,none⟩),.pointer (some ⟨b,0,none⟩)] w λ e w'=>e=.returned (.tuple #[])/\Mem w' b g l (k+1)/\Con Z w' T S N C R F K fa fb fd q 196 nid cs0 [int .u64 nN,int .i64 1]/\Kept (λ i=>Z i\/i=b\/i=g) w w':=by
 obtain⟨v,h1,h2,h3⟩:=h.ex;have HH:=Hd h;have HM:=Hd hm;have HC:=Hd hc;have HB:=Hd h1;have HCH:=Hd hch;clear h hm hc h1 h2 h3 hch;go_enter func149,ntmps149;go_wp2_with fail;refine(loadLatch_any T S N C R F K fa fb fd hl hd q nid s.rd s.en s.lv v s.hi s.la s.rt _ _ HB.o b g l k HM.o hk ad had nN mM kK HC.o hN).mono ?_;rintro e w1 ⟨rfl,hM1,hK1⟩;have hH1:=HH.o.kept hK1 (keepOwn hb hg);obtain⟨v1,h11,h21,h31⟩:=hH1.ex;have x18:=h11.k 18 rfl;have z18:=h11.frozen 18;have hqb:q≠b:=λ e=>hb (e ▸ HH.o.own);have hqg:q≠g:=λ e=>hg (e ▸ HH.o.own);have HT:=Hd (show Con Z (w1.setCell ⟨q,18,none⟩ (int .u64 nN)) T S N C R F K fa fb fd q 196 nid s [int .u64 nN,int .i64 ph] from hH1.setTail (by decide) 0 (int .u64 nN));have HM2:=Hd (hM1.farq (q:=q) (by unfold Own;omega) 18 (int .u64 nN));have HK2:=Hd ((hK1.mono (T:=λ i=>Z i\/i=b\/i=g) (λ i e=>.inr e)).setCell (a:=⟨q,18,none⟩) (λ_=>.inl HH.o.own) (int .u64 nN));clear hM1 hK1 hH1 h11 h21 h31 HM HC HB HH;go_wp2_with fail;refine(changing_of nN false hN HCH.o _).mono ?_;rintro e w2 ⟨rfl,rfl⟩;clear x18 z18;generalize w1.setCell ⟨q,18,none⟩ (int .u64 nN)=W at *;have hT:=HT.o;obtain⟨v2,h12,h22,h32⟩:=hT.ex;have HB2:=Hd h12;clear h12 h22 h32 hT;go_wp2_with fail;refine(restart_any T S N C R F K fa fb fd hl hd q 196 nid s.rd s.en s.lv v2 s.hi s.la s.rt _ _ HB2.o).mono ?_;rintro e w3 ⟨rfl,hB3,hK3⟩;have x19:=hB3.k 19 rfl;have z19:=hB3.frozen 19;have hC3:Con Z w3 T S N C R F K fa fb fd q 196 nid cs0 [int .u64 nN,int .i64 ph]:=⟨λ i hi=>Nat.lt_of_lt_of_le (HT.o.lt i hi) hK3.size,HT.o.own,_,hB3,World.ownsRow_nil _ _ _ _,λ i hi=>by cases hi⟩;have HT3:=Hd (show Con Z (w3.setCell ⟨q,19,none⟩ (int .i64 1)) T S N C R F K fa fb fd q 196 nid cs0 [int .u64 nN,int .i64 1] from hC3.setTail (by decide) 1 (int .i64 1));have HM3:=Hd ((HM2.o.kept hK3 (λ e=>hqb e.symm) (λ e=>hqg e.symm)).farq (q:=q) (by unfold Own;omega) 19 (int .i64 1));have HK3:=Hd ((HK2.o.trans hK3 (λ i _ e=>.inl (by subst e;exact HT.o.own))).setCell (a:=⟨q,19,none⟩) (λ_=>.inl HT.o.own) (int .i64 1));clear hB3 hK3 hC3 HB2 HT HM2 HK2;go_wp2;go_end0;exact⟨rfl,HM3.o,HT3.o,HK3.o⟩

theorem validate_true(Z:Nat->Prop)(T S N C R:Int)(F:Nat)(K fa fb fd:Int)(hl:Lim T S N C R (F:Int))(hd:Reach3 fa fb fd)(q nid:Nat)(s:Cs)(wd ph:Nat)(w:World)(h:Con Z w T S N C R F K fa fb fd q 196 nid s [int .u64 wd,int .i64 ph])(hwd:wd<18446744073709551616)(b g:Nat)(l:List Cel)(k:Nat)(hm:Mem w b g l k)(hb:¬ Z b)(hg:¬ Z g)(hk:k<9223372036854775808)(ad:Int)(had:nodeAt N (F:Int) fa (nid:Int) 0=ad)(nN mM:Nat)(kK:ByteArray)(hc:cellAt l ad=((nN:Int),kK,(mM:Int)))(hN:nN<18446744073709551616)(hr:(wd / 2==nN / 2)=true) :
  Calls prog 150 #[.pointer (some ⟨q,0,none⟩),.pointer (some ⟨b,0,none⟩)] w λ e w'=>e=.returned (.tuple #[])/\Mem w' b g l (k+1)/\Con Z w' T S N C R F K fa fb fd q 196 nid s [int .u64 wd,int .i64 3]/\Kept (λ i=>Z i\/i=b\/i=g) w w':=by
 obtain⟨v,h1,h2,h3⟩:=h.ex;have HH:=Hd h;have HM:=Hd hm;have HC:=Hd hc;have x18:=h1.k 18 rfl;have HB:=Hd h1;have HR:=Hd hr;have hqb:q≠b:=λ e=>hb (e ▸ h.own);have hqg:q≠g:=λ e=>hg (e ▸ h.own);have HX:=Hd x18;clear h hm hc h1 h2 h3 hr x18;go_enter func150,ntmps150;go_wp2_with fail;have HM:=Hd HM.o.drew;have HH0:=Hd (HH.o.kept ((Kept.refl (λ_=>False) _).drew) kk2);have HB0:=Hd (HB.o.of (w':=w.drew) rfl);have HX0:=Hd (show w.drew.cell? ⟨q,18,none⟩=some (int .u64 wd) from HX.o);have HK0:=Hd ((Kept.refl (λ i=>Z i\/i=b\/i=g) w).drew);clear HX HB HH;refine wp_region_held_drew (S:=(λ w'=>w'.cell? ⟨q,18,none⟩=some (int .u64 wd))) (by kernel_rfl) ?_ (λ hH=>?_)
 ·exact HX0.o
 generalize w.drew=G at *;refine tkI 0 4 hH ?_;refine tkI 1 5 hH ?_;refine tkI 2 6 hH ?_;refine tkI 3 7 hH ?_ (hv:=by intro wq hSw;have x18:=hSw;exact qq1);refine tkI 4 8 hH ?_;refine tkI 5 9 hH ?_;refine rdH 6 (some 10) rfl λ KK hK=>?_;go_simp;go_at_call 169;refine(loadLatch_any T S N C R F K fa fb fd hl hd q nid s.rd s.en s.lv v s.hi s.la s.rt _ _ HB0.o b g l k HM.o hk ad had nN mM kK HC.o hN).mono ?_;rintro e w1 ⟨rfl,hM1,hK1⟩;replace HX0:=Hd ((hK1.cell (p:=⟨q,18,none⟩) HB0.o.lt (λ e=>by rcases e with e|e;exact hqb e;exact hqg e)).trans HX0.o);replace HH0:=Hd (HH0.o.kept hK1 (keepOwn hb hg));replace HM:=Hd hM1;replace HK0:=Hd (HK0.o.trans hK1 (λ i _ e=>.inr e));clear hM1 hK1 HB0;refine hkO hK HX0.o λ h2=>?_;replace hH:=h2;clear hK KK h2
 refine rdH 7 (some 11) rfl λ KK hK=>?_;go_simp;go_at_call 172;refine(same_of wd nN true hwd hN HR.o _).mono ?_;rintro e w2 ⟨rfl,rfl⟩;refine hkO hK HX0.o λ h2=>?_;replace hH:=h2;clear hK KK h2
 refine dnH ?_;clear hH;have hH1:=HH0.o;obtain⟨v1,h11,h21,h31⟩:=hH1.ex;have x19:=h11.k 19 rfl;have z19:=h11.frozen 19;have HT:=Hd (show Con Z (w1.setCell ⟨q,19,none⟩ (int .i64 3)) T S N C R F K fa fb fd q 196 nid s [int .u64 wd,int .i64 3] from hH1.setTail (by decide) 1 (int .i64 3));have HM2:=Hd (HM.o.farq (q:=q) (by unfold Own;omega) 19 (int .i64 3));have HK2:=Hd (HK0.o.setCell (a:=⟨q,19,none⟩) (λ_=>.inl hH1.own) (int .i64 3));clear hH1 h11 h21 h31 HM HC HH0 HK0 HX0;go_wp2;go_end0;exact⟨rfl,HM2.o,HT.o,HK2.o⟩

theorem validate_false(Z:Nat->Prop)(T S N C R:Int)(F:Nat)(K fa fb fd:Int)(hl:Lim T S N C R (F:Int))(hd:Reach3 fa fb fd)(q nid:Nat)(s:Cs)(wd ph:Nat)(w:World)(h:Con Z w T S N C R F K fa fb fd q 196 nid s [int .u64 wd,int .i64 ph])(hwd:wd<18446744073709551616)(b g:Nat)(l:List Cel)(k:Nat)(hm:Mem w b g l k)(hb:¬ Z b)(hg:¬ Z g)(hk:k<9223372036854775808)(ad:Int)(had:nodeAt N (F:Int) fa (nid:Int) 0=ad)(nN mM:Nat)(kK:ByteArray)(hc:cellAt l ad=((nN:Int),kK,(mM:Int)))(hN:nN<18446744073709551616)(hr:(wd / 2==nN / 2)=false) :
  Calls prog 150 #[.pointer (some ⟨q,0,none⟩),.pointer (some ⟨b,0,none⟩)] w λ e w'=>e=.returned (.tuple #[])/\Mem w' b g l (k+1)/\Con Z w' T S N C R F K fa fb fd q 196 nid s [int .u64 wd,int .i64 0]/\Kept (λ i=>Z i\/i=b\/i=g) w w':=by
 obtain⟨v,h1,h2,h3⟩:=h.ex;have HH:=Hd h;have HM:=Hd hm;have HC:=Hd hc;have x18:=h1.k 18 rfl;have HB:=Hd h1;have HR:=Hd hr;have hqb:q≠b:=λ e=>hb (e ▸ h.own);have hqg:q≠g:=λ e=>hg (e ▸ h.own);have HX:=Hd x18;clear h hm hc h1 h2 h3 hr x18;go_enter func150,ntmps150;go_wp2_with fail;have HM:=Hd HM.o.drew;have HH0:=Hd (HH.o.kept ((Kept.refl (λ_=>False) _).drew) kk2);have HB0:=Hd (HB.o.of (w':=w.drew) rfl);have HX0:=Hd (show w.drew.cell? ⟨q,18,none⟩=some (int .u64 wd) from HX.o);have HK0:=Hd ((Kept.refl (λ i=>Z i\/i=b\/i=g) w).drew);clear HX HB HH;refine wp_region_held_drew (S:=(λ w'=>w'.cell? ⟨q,18,none⟩=some (int .u64 wd))) (by kernel_rfl) ?_ (λ hH=>?_)
 ·exact HX0.o
 generalize w.drew=G at *;refine tkI 0 4 hH ?_;refine tkI 1 5 hH ?_;refine tkI 2 6 hH ?_;refine tkI 3 7 hH ?_ (hv:=by intro wq hSw;have x18:=hSw;exact qq1);refine tkI 4 8 hH ?_;refine tkI 5 9 hH ?_;refine rdH 6 (some 10) rfl λ KK hK=>?_;go_simp;go_at_call 169;refine(loadLatch_any T S N C R F K fa fb fd hl hd q nid s.rd s.en s.lv v s.hi s.la s.rt _ _ HB0.o b g l k HM.o hk ad had nN mM kK HC.o hN).mono ?_;rintro e w1 ⟨rfl,hM1,hK1⟩;replace HX0:=Hd ((hK1.cell (p:=⟨q,18,none⟩) HB0.o.lt (λ e=>by rcases e with e|e;exact hqb e;exact hqg e)).trans HX0.o);replace HH0:=Hd (HH0.o.kept hK1 (keepOwn hb hg));replace HM:=Hd hM1;replace HK0:=Hd (HK0.o.trans hK1 (λ i _ e=>.inr e));clear hM1 hK1 HB0;refine hkO hK HX0.o λ h2=>?_;replace hH:=h2;clear hK KK h2
 refine rdH 7 (some 11) rfl λ KK hK=>?_;go_simp;go_at_call 172;refine(same_of wd nN false hwd hN HR.o _).mono ?_;rintro e w2 ⟨rfl,rfl⟩;refine hkO hK HX0.o λ h2=>?_;replace hH:=h2;clear hK KK h2
 refine dnH ?_;clear hH;have hH1:=HH0.o;obtain⟨v1,h11,h21,h31⟩:=hH1.ex;have x19:=h11.k 19 rfl;have z19:=h11.frozen 19;have HT:=Hd (show Con Z (w1.setCell ⟨q,19,none⟩ (int .i64 0)) T S N C R F K fa fb fd q 196 nid s [int .u64 wd,int .i64 0] from hH1.setTail (by decide) 1 (int .i64 0));have HM2:=Hd (HM.o.farq (q:=q) (by unfold Own;omega) 19 (int .i64 0));have HK2:=Hd (HK0.o.setCell (a:=⟨q,19,none⟩) (λ_=>.inl hH1.own) (int .i64 0));clear hH1 h11 h21 h31 HM HC HH0 HK0 HX0;go_wp2;go_end0;exact⟨rfl,HM2.o,HT.o,HK2.o⟩

structure Rst where
 ph:Nat
 wd:Nat
 s:Cs
def rst0:Rst:=⟨0,0,cs0⟩
def rtl(y:Rst):List Value:=[int .u64 y.wd,int .i64 y.ph]
def rnext(F:Nat)(y:Rst)(nN:Nat)(kK:ByteArray)(mM:Nat):Rst :=
 if y.ph=0 then (if nN / 2%2=1 then ⟨0,nN,y.s⟩ else ⟨1,nN,cs0⟩)
 else if y.ph=1 then ⟨if (tk F y.s nN kK mM).rd=(tk F y.s nN kK mM).en then 2 else 1,y.wd,tk F y.s nN kK mM⟩
 else if y.wd / 2=nN / 2 then ⟨3,y.wd,y.s⟩ else ⟨0,y.wd,y.s⟩
def raddr(la0:Int)(ad:Nat->Int)(y:Rst):Int:=if y.ph=1 then ad y.s.rd else la0
structure Okr(F:Nat)(y:Rst):Prop where
 ph:y.ph<=3
 wd:y.wd<18446744073709551616
 s:Oks F y.s
 mid:y.ph=1->y.s.rd=0\/y.s.rd<y.s.en
theorem okr0(F:Nat):Okr F rst0:=⟨by simp[rst0],by simp[rst0],oks0 F,λ h=>by simp[rst0] at h⟩
theorem rnext_ok{F:Nat}{y:Rst}(h:Okr F y)(hp:y.ph<3){nN mM:Nat}{kK:ByteArray}(hN:nN<18446744073709551616):Okr F (rnext F y nN kK mM):=by
 unfold rnext
 split
 ·split
  ·exact⟨by simp,hN,h.s,λ e=>by simp at e⟩
  ·exact⟨by simp,hN,oks0 F,λ_=>.inl rfl⟩
 ·split
  ·rename_i h0 h1
   have ht:=tk_oks h.s (h.mid h1) nN kK mM;refine⟨by simp only;split<;>omega,h.wd,ht,λ e=>?_⟩;simp only at e ⊢
   split at e
   ·omega
   ·rename_i hne
    have:=ht.en (by rw[tk_rd];omega);omega
  ·split
   ·exact⟨by simp,h.wd,h.s,λ e=>by simp at e⟩
   ·exact⟨by simp,h.wd,h.s,λ e=>by simp at e⟩

theorem rstep_0(Z:Nat->Prop)(T S N C R:Int)(F:Nat)(K fa fb fd:Int)(hl:Lim T S N C R (F:Int))(hd:Reach3 fa fb fd)(q nid:Nat)(y y':Rst)(w:World)(h:Con Z w T S N C R F K fa fb fd q 196 nid y.s (rtl y))(hok:Okr F y)(b g:Nat)(l:List Cel)(k:Nat)(hm:Mem w b g l k)(hb:¬ Z b)(hg:¬ Z g)(hk:k<9223372036854775808)(a0:Int)(had:(if y.ph=1 then adr N F fa nid y.s.rd else nodeAt N (F:Int) fa (nid:Int) 0)=a0)
  (nN mM:Nat) (kK:ByteArray) (hc:cellAt l a0=((nN:Int),kK,(mM:Int))) (hN:nN<18446744073709551616) (hM:mM<9223372036854775808) (hph:y.ph=0) (hy:rnext F y nN kK mM=y') (r:Bool) (hr:(y'.ph==3)=r) :
  Calls prog 107 #[.pointer (some ⟨q,0,none⟩),.pointer (some ⟨b,0,none⟩)] w λ e w'=>e=.returned (.bool r)/\Mem w' b g l (k+1)/\∃ Z',Con Z' w' T S N C R F K fa fb fd q 196 nid y'.s (rtl y')/\Kept (λ i=>Z i\/i=b\/i=g) w w'/\(∀ i,Z' i->Z i\/w.heap.size<=i):=by
 have hp:y.ph=0:=hph;obtain⟨v0,h10,h20,h30⟩:=h.ex;have x19:w.cell? ⟨q,19,none⟩=some (int .i64 y.ph):=h10.k 19 rfl;have hqb:q≠b:=λ e=>hb (e ▸ h.own);have hqg:q≠g:=λ e=>hg (e ▸ h.own);have p0:((y.ph:Int)==0)=true:=by simp;omega
 have HH:=Hd h;have HM:=Hd hm;have HC:=Hd hc;have HOK:=Hd hok;have HY:=Hd hy;have HR:=Hd hr;have HAD:=Hd had;have HP:=Hd hp;clear h hm hc hok hy hr had h10 h20 h30 hp
 by_cases hch:nN / 2%2=1
 ·have HCH:=Hd (show (nN / 2%2==1)=true by simpa using hch)
  have hphz:y.ph=0:=HP.o;have e:y'=⟨0,nN,y.s⟩:=by rw[←HY.o];unfold rnext;rw[if_pos hphz,if_pos hch]
  have hrr:r=false:=by rw[←HR.o,e];rfl
  subst e hrr;clear hch hphz HY HR HOK;go_enter func107,ntmps107;go_wp2_with fail;refine(begin_true Z T S N C R F K fa fb fd hl hd q nid y.s y.wd y.ph _ HH.o b g l k HM.o hb hg hk a0 (by rw[←HAD.o,if_neg (by have:=HP.o;omega)]) nN mM kK HC.o hN HCH.o).mono ?_;rintro e w1 ⟨rfl,hM1,hC1,hK1⟩;obtain⟨v1,h11,h21,h31⟩:=hC1.ex;have y19:w1.cell? ⟨q,19,none⟩=some (int .i64 y.ph):=h11.k 19 rfl;have q3:((y.ph:Int)==3)=false:=by have:=HP.o;simp;omega
  have HM1:=Hd hM1;have HC1:=Hd (show Con Z w1 T S N C R F K fa fb fd q 196 nid (⟨0,nN,y.s⟩:Rst).s (rtl (⟨0,nN,y.s⟩:Rst)) from by have hz:=HP.o;have:=hC1;rw[hz] at this;exact this);have HK1:=Hd hK1;clear hM1 hC1 hK1 h11 h21 h31 x19 HH HM HC;go_wp2;go_ret;exact⟨rfl,HM1.o,Z,HC1.o,HK1.o,λ i hi=>.inl hi⟩
 ·have HCH:=Hd (show (nN / 2%2==1)=false by simpa using hch)
  have hphz:y.ph=0:=HP.o;have e:y'=⟨1,nN,cs0⟩:=by rw[←HY.o];unfold rnext;rw[if_pos hphz,if_neg hch]
  have hrr:r=false:=by rw[←HR.o,e];rfl
  subst e hrr;clear hch hphz HY HR HOK;go_enter func107,ntmps107;go_wp2_with fail;refine(begin_false Z T S N C R F K fa fb fd hl hd q nid y.s y.wd y.ph _ HH.o b g l k HM.o hb hg hk a0 (by rw[←HAD.o,if_neg (by have:=HP.o;omega)]) nN mM kK HC.o hN HCH.o).mono ?_;rintro e w1 ⟨rfl,hM1,hC1,hK1⟩;obtain⟨v1,h11,h21,h31⟩:=hC1.ex;have y19:w1.cell? ⟨q,19,none⟩=some (int .i64 1):=h11.k 19 rfl;have HM1:=Hd hM1;have HC1:=Hd (show Con Z w1 T S N C R F K fa fb fd q 196 nid (⟨1,nN,cs0⟩:Rst).s (rtl (⟨1,nN,cs0⟩:Rst)) from hC1);have HK1:=Hd hK1;clear hM1 hC1 hK1 h11 h21 h31 x19 HH HM HC;go_wp2;go_ret;exact⟨rfl,HM1.o,Z,HC1.o,HK1.o,λ i hi=>.inl hi⟩

theorem rstep_1(Z:Nat->Prop)(T S N C R:Int)(F:Nat)(K fa fb fd:Int)(hl:Lim T S N C R (F:Int))(hd:Reach3 fa fb fd)(q nid:Nat)(y y':Rst)(w:World)(h:Con Z w T S N C R F K fa fb fd q 196 nid y.s (rtl y))(hok:Okr F y)(b g:Nat)(l:List Cel)(k:Nat)(hm:Mem w b g l k)(hb:¬ Z b)(hg:¬ Z g)(hk:k<9223372036854775808)(a0:Int)(had:(if y.ph=1 then adr N F fa nid y.s.rd else nodeAt N (F:Int) fa (nid:Int) 0)=a0)
  (nN mM:Nat) (kK:ByteArray) (hc:cellAt l a0=((nN:Int),kK,(mM:Int))) (hN:nN<18446744073709551616) (hM:mM<9223372036854775808) (hph:y.ph=1) (hy:rnext F y nN kK mM=y') (r:Bool) (hr:(y'.ph==3)=r) :
  Calls prog 107 #[.pointer (some ⟨q,0,none⟩),.pointer (some ⟨b,0,none⟩)] w λ e w'=>e=.returned (.bool r)/\Mem w' b g l (k+1)/\∃ Z',Con Z' w' T S N C R F K fa fb fd q 196 nid y'.s (rtl y')/\Kept (λ i=>Z i\/i=b\/i=g) w w'/\(∀ i,Z' i->Z i\/w.heap.size<=i):=by
 have hp:y.ph=1:=hph;obtain⟨v0,h10,h20,h30⟩:=h.ex;have x19:w.cell? ⟨q,19,none⟩=some (int .i64 y.ph):=h10.k 19 rfl;have hqb:q≠b:=λ e=>hb (e ▸ h.own);have hqg:q≠g:=λ e=>hg (e ▸ h.own);have p0:((y.ph:Int)==0)=false:=by simp;omega
 have p1:((y.ph:Int)==1)=true:=by simp;omega
 have HH:=Hd h;have HM:=Hd hm;have HC:=Hd hc;have HOK:=Hd hok;have HY:=Hd hy;have HR:=Hd hr;have HAD:=Hd had;have HP:=Hd hp;clear h hm hc hok hy hr had h10 h20 h30 hp
 by_cases hrd:(tk F y.s nN kK mM).rd=(tk F y.s nN kK mM).en
 ·have HRD:=Hd (show ((tk F y.s nN kK mM).rd==(tk F y.s nN kK mM).en)=true by simpa using hrd)
  have hphz:y.ph=1:=HP.o;have e:y'=⟨2,y.wd,tk F y.s nN kK mM⟩:=by rw[←HY.o];unfold rnext;rw[if_neg (by omega),if_pos hphz,if_pos hrd]
  have hrr:r=false:=by rw[←HR.o,e];rfl
  subst e hrr;clear hrd hphz HY HR;go_enter func107,ntmps107;go_wp2_with fail;refine(cload_any Z T S N C R F K fa fb fd hl hd q 196 nid y.s _ _ _ HH.o (by decide) b g l k HM.o hb hg hk HOK.o.s (HOK.o.mid HP.o) a0 (by rw[←HAD.o,if_pos HP.o]) nN mM kK HC.o hN hM rfl true HRD.o).mono ?_;rintro e w1 ⟨rfl,hM1,Z1,hC1,hK1,hn1⟩;obtain⟨v1,h11,h21,h31⟩:=hC1.ex;have y19:w1.cell? ⟨q,19,none⟩=some (int .i64 y.ph):=h11.k 19 rfl;have z19:=h11.frozen 19;have hz1:∀ i,Z1 i->¬ (i=b\/i=g):=λ i hi e=>by
   rcases hn1 i hi with h|h
   ·rcases e with rfl|rfl
    ·exact hb h
    ·exact hg h
   ·have:=HM.o.obj.lt;have:=HM.o.row.lt;omega
  have HT:=Hd (show Con Z1 (w1.setCell ⟨q,19,none⟩ (int .i64 2)) T S N C R F K fa fb fd q 196 nid (⟨2,y.wd,tk F y.s nN kK mM⟩:Rst).s (rtl (⟨2,y.wd,tk F y.s nN kK mM⟩:Rst)) from hC1.setTail (by decide) 1 (int .i64 2));have HM2:=Hd (hM1.farq (q:=q) (by unfold Own;omega) 19 (int .i64 2));have HK2:=Hd (hK1.setCell (a:=⟨q,19,none⟩) (λ_=>.inl HH.o.own) (int .i64 2));have HN1:=Hd hn1;clear hM1 hC1 hK1 hn1 h11 h21 h31 x19 HH HM HC hz1;go_wp2;go_ret;exact⟨rfl,HM2.o,Z1,HT.o,HK2.o,HN1.o⟩
 ·have HRD:=Hd (show ((tk F y.s nN kK mM).rd==(tk F y.s nN kK mM).en)=false by simpa using hrd)
  have hphz:y.ph=1:=HP.o;have e:y'=⟨1,y.wd,tk F y.s nN kK mM⟩:=by rw[←HY.o];unfold rnext;rw[if_neg (by omega),if_pos hphz,if_neg hrd]
  have hrr:r=false:=by rw[←HR.o,e];rfl
  subst e hrr;clear hrd hphz HY HR;go_enter func107,ntmps107;go_wp2_with fail;refine(cload_any Z T S N C R F K fa fb fd hl hd q 196 nid y.s _ _ _ HH.o (by decide) b g l k HM.o hb hg hk HOK.o.s (HOK.o.mid HP.o) a0 (by rw[←HAD.o,if_pos HP.o]) nN mM kK HC.o hN hM rfl false HRD.o).mono ?_;rintro e w1 ⟨rfl,hM1,Z1,hC1,hK1,hn1⟩;obtain⟨v1,h11,h21,h31⟩:=hC1.ex;have y19:w1.cell? ⟨q,19,none⟩=some (int .i64 y.ph):=h11.k 19 rfl;have q3:((y.ph:Int)==3)=false:=by have:=HP.o;simp;omega
  have HM1:=Hd hM1;have HC1:=Hd (show Con Z1 w1 T S N C R F K fa fb fd q 196 nid (⟨1,y.wd,tk F y.s nN kK mM⟩:Rst).s (rtl (⟨1,y.wd,tk F y.s nN kK mM⟩:Rst)) from by have hz:=HP.o;have:=hC1;unfold rtl at this;rw[hz] at this;exact this);have HK1:=Hd hK1;have HN1:=Hd hn1;clear hM1 hC1 hK1 hn1 h11 h21 h31 x19 HH HM HC;go_wp2;go_ret;exact⟨rfl,HM1.o,Z1,HC1.o,HK1.o,HN1.o⟩

theorem rstep_2(Z:Nat->Prop)(T S N C R:Int)(F:Nat)(K fa fb fd:Int)(hl:Lim T S N C R (F:Int))(hd:Reach3 fa fb fd)(q nid:Nat)(y y':Rst)(w:World)(h:Con Z w T S N C R F K fa fb fd q 196 nid y.s (rtl y))(hok:Okr F y)(b g:Nat)(l:List Cel)(k:Nat)(hm:Mem w b g l k)(hb:¬ Z b)(hg:¬ Z g)(hk:k<9223372036854775808)(a0:Int)(had:(if y.ph=1 then adr N F fa nid y.s.rd else nodeAt N (F:Int) fa (nid:Int) 0)=a0)
  (nN mM:Nat) (kK:ByteArray) (hc:cellAt l a0=((nN:Int),kK,(mM:Int))) (hN:nN<18446744073709551616) (hM:mM<9223372036854775808) (hph:y.ph=2) (hy:rnext F y nN kK mM=y') (r:Bool) (hr:(y'.ph==3)=r) :
  Calls prog 107 #[.pointer (some ⟨q,0,none⟩),.pointer (some ⟨b,0,none⟩)] w λ e w'=>e=.returned (.bool r)/\Mem w' b g l (k+1)/\∃ Z',Con Z' w' T S N C R F K fa fb fd q 196 nid y'.s (rtl y')/\Kept (λ i=>Z i\/i=b\/i=g) w w'/\(∀ i,Z' i->Z i\/w.heap.size<=i):=by
 have hp:y.ph=2:=hph;obtain⟨v0,h10,h20,h30⟩:=h.ex;have x19:w.cell? ⟨q,19,none⟩=some (int .i64 y.ph):=h10.k 19 rfl;have hqb:q≠b:=λ e=>hb (e ▸ h.own);have hqg:q≠g:=λ e=>hg (e ▸ h.own);have p0:((y.ph:Int)==0)=false:=by simp;omega
 have p1:((y.ph:Int)==1)=false:=by simp;omega
 have p2:((y.ph:Int)==2)=true:=by simp;omega
 have HH:=Hd h;have HM:=Hd hm;have HC:=Hd hc;have HOK:=Hd hok;have HY:=Hd hy;have HR:=Hd hr;have HAD:=Hd had;have HP:=Hd hp;clear h hm hc hok hy hr had h10 h20 h30 hp
 by_cases hsm:y.wd / 2=nN / 2
 ·have HSM:=Hd (show (y.wd / 2==nN / 2)=true by simpa using hsm)
  have hphz:y.ph=2:=HP.o;have e:y'=⟨3,y.wd,y.s⟩:=by rw[←HY.o];unfold rnext;rw[if_neg (by omega),if_neg (by omega),if_pos hsm]
  have hrr:r=true:=by rw[←HR.o,e];rfl
  subst e hrr;clear hsm hphz HY HR;go_enter func107,ntmps107;go_wp2_with fail;refine(validate_true Z T S N C R F K fa fb fd hl hd q nid y.s y.wd y.ph _ HH.o HOK.o.wd b g l k HM.o hb hg hk a0 (by rw[←HAD.o,if_neg (by have:=HP.o;omega)]) nN mM kK HC.o hN HSM.o).mono ?_;rintro e w1 ⟨rfl,hM1,hC1,hK1⟩;obtain⟨v1,h11,h21,h31⟩:=hC1.ex;have y19:w1.cell? ⟨q,19,none⟩=some (int .i64 3):=h11.k 19 rfl;have HM1:=Hd hM1;have HC1:=Hd (show Con Z w1 T S N C R F K fa fb fd q 196 nid (⟨3,y.wd,y.s⟩:Rst).s (rtl (⟨3,y.wd,y.s⟩:Rst)) from hC1);have HK1:=Hd hK1;clear hM1 hC1 hK1 h11 h21 h31 x19 HH HM HC;go_wp2;go_ret;exact⟨rfl,HM1.o,Z,HC1.o,HK1.o,λ i hi=>.inl hi⟩
 ·have HSM:=Hd (show (y.wd / 2==nN / 2)=false by simpa using hsm)
  have hphz:y.ph=2:=HP.o;have e:y'=⟨0,y.wd,y.s⟩:=by rw[←HY.o];unfold rnext;rw[if_neg (by omega),if_neg (by omega),if_neg hsm]
  have hrr:r=false:=by rw[←HR.o,e];rfl
  subst e hrr;clear hsm hphz HY HR;go_enter func107,ntmps107;go_wp2_with fail;refine(validate_false Z T S N C R F K fa fb fd hl hd q nid y.s y.wd y.ph _ HH.o HOK.o.wd b g l k HM.o hb hg hk a0 (by rw[←HAD.o,if_neg (by have:=HP.o;omega)]) nN mM kK HC.o hN HSM.o).mono ?_;rintro e w1 ⟨rfl,hM1,hC1,hK1⟩;obtain⟨v1,h11,h21,h31⟩:=hC1.ex;have y19:w1.cell? ⟨q,19,none⟩=some (int .i64 0):=h11.k 19 rfl;have HM1:=Hd hM1;have HC1:=Hd (show Con Z w1 T S N C R F K fa fb fd q 196 nid (⟨0,y.wd,y.s⟩:Rst).s (rtl (⟨0,y.wd,y.s⟩:Rst)) from hC1);have HK1:=Hd hK1;clear hM1 hC1 hK1 h11 h21 h31 x19 HH HM HC;go_wp2;go_ret;exact⟨rfl,HM1.o,Z,HC1.o,HK1.o,λ i hi=>.inl hi⟩

theorem rstep_any(Z:Nat->Prop)(T S N C R:Int)(F:Nat)(K fa fb fd:Int)(hl:Lim T S N C R (F:Int))(hd:Reach3 fa fb fd)(q nid:Nat)(y y':Rst)(w:World)(h:Con Z w T S N C R F K fa fb fd q 196 nid y.s (rtl y))(hok:Okr F y)(b g:Nat)(l:List Cel)(k:Nat)(hm:Mem w b g l k)(hb:¬ Z b)(hg:¬ Z g)(hk:k<9223372036854775808)(a0:Int)(had:(if y.ph=1 then adr N F fa nid y.s.rd else nodeAt N (F:Int) fa (nid:Int) 0)=a0)
  (nN mM:Nat) (kK:ByteArray) (hc:cellAt l a0=((nN:Int),kK,(mM:Int))) (hN:nN<18446744073709551616) (hM:mM<9223372036854775808) (hph:y.ph<3) (hy:rnext F y nN kK mM=y') (r:Bool) (hr:(y'.ph==3)=r) :
  Calls prog 107 #[.pointer (some ⟨q,0,none⟩),.pointer (some ⟨b,0,none⟩)] w λ e w'=>e=.returned (.bool r)/\Mem w' b g l (k+1)/\∃ Z',Con Z' w' T S N C R F K fa fb fd q 196 nid y'.s (rtl y')/\Kept (λ i=>Z i\/i=b\/i=g) w w'/\(∀ i,Z' i->Z i\/w.heap.size<=i):=by
 rcases (by omega:y.ph=0\/y.ph=1\/y.ph=2) with h0|h0|h0
 ·exact rstep_0 Z T S N C R F K fa fb fd hl hd q nid y y' w h hok b g l k hm hb hg hk a0 had nN mM kK hc hN hM h0 hy r hr
 ·exact rstep_1 Z T S N C R F K fa fb fd hl hd q nid y y' w h hok b g l k hm hb hg hk a0 had nN mM kK hc hN hM h0 hy r hr
 ·exact rstep_2 Z T S N C R F K fa fb fd hl hd q nid y y' w h hok b g l k hm hb hg hk a0 had nN mM kK hc hN hM h0 hy r hr

theorem rstep_done(Z:Nat->Prop)(T S N C R:Int)(F:Nat)(K fa fb fd:Int)(q nid m:Nat)(y:Rst)(w:World)(h:Con Z w T S N C R F K fa fb fd q 196 nid y.s (rtl y))(hph:y.ph=3) :
  Calls prog 107 #[.pointer (some ⟨q,0,none⟩),.pointer (some ⟨m,0,none⟩)] w λ e w'=>e=.returned (.bool true)/\w=w':=by
 obtain⟨v0,h10,h20,h30⟩:=h.ex;have x19:w.cell? ⟨q,19,none⟩=some (int .i64 y.ph):=h10.k 19 rfl;have p0:((y.ph:Int)==0)=false:=by simp;omega
 have p1:((y.ph:Int)==1)=false:=by simp;omega
 have p2:((y.ph:Int)==2)=false:=by simp;omega
 have p3:((y.ph:Int)==3)=true:=by simp;omega
 clear h10 h20 h30 h;go_enter func107,ntmps107;go_wp2;go_ret;exact⟨rfl,rfl⟩
end

section


theorem bkept{w w':World}(h:Below w.heap.size w w'):Kept (λ_=>False) w w':=⟨h.os,h.tape,h.output,h.size,λ i hi _=>h.block i hi⟩

theorem newRead_any(T S N C R:Int)(F:Nat)(K fa fb fd:Int)(hl:Lim T S N C R (F:Int))(hd:Reach3 fa fb fd)(nid:Nat)  (w:World) :
  Calls prog 148 #[.agg #[int .i64 T,int .i64 S,int .i64 N,int .i64 C,int .i64 R,int .i64 F,int .u64 K,int .i64 fa,int .i64 fb,int .i64 fd],int .u64 nid] w λ e w'=>∃ q:Nat,e=.returned (.pointer (some ⟨q,0,none⟩))/\Con (λ i=>i=q) w' T S N C R F K fa fb fd q 196 nid cs0 [int .u64 0,int .i64 0]/\w.heap.size<=q/\Kept (λ_=>False) w w':=by
 go_enter func148,ntmps148;go_wp2;go_ret;have hB:Blk ((w.alloc (.cells #[int .i64 T,int .i64 S,int .i64 N,int .i64 C,int .i64 R,int .i64 F,int .u64 K,int .i64 fa,int .i64 fb,int .i64 fd] 28)).alloc (.cells ⟨(conv T S N C R F K fa fb fd nid 0 0 0 (.slice none 0 0) ⟨#[]⟩ false 0 [int .u64 0,int .i64 0])⟩ 196)) (w.heap.size+1) 196 (conv T S N C R F K fa fb fd nid 0 0 0 (.slice none 0 0) ⟨#[]⟩ false 0 [int .u64 0,int .i64 0]):=by have:=Blk.new (w.alloc (.cells #[int .i64 T,int .i64 S,int .i64 N,int .i64 C,int .i64 R,int .i64 F,int .u64 K,int .i64 fa,int .i64 fb,int .i64 fd] 28)) (conv T S N C R F K fa fb fd nid 0 0 0 (.slice none 0 0) ⟨#[]⟩ false 0 [int .u64 0,int .i64 0]) 196;rwa [nblk_alloc] at this
 exact⟨w.heap.size+1,rfl,⟨λ i hi=>by subst hi;exact hB.lt,rfl,_,hB,World.ownsRow_nil _ _ _ _,λ i hi=>by cases hi⟩,Nat.le_succ _,((Kept.refl _ _).alloc _).alloc _⟩

theorem rpage_any(Z:Nat->Prop)(T S N C R:Int)(F:Nat)(K fa fb fd:Int)(q nid:Nat)(y:Rst)(w:World)(h:Con Z w T S N C R F K fa fb fd q 196 nid y.s (rtl y))(hph:y.ph=3)(h40:y.s.xs.length<=1099511627776) :
  Calls prog 112 #[.pointer (some ⟨q,0,none⟩)] w λ e w'=>∃ A c,e=.returned (.agg #[int .i64 y.s.lv,.slice A y.s.xs.length c,.string y.s.hi,.bool y.s.la,int .u64 y.s.rt])/\Rs w' A c y.s.xs/\(∀ a,A=some a->w.heap.size<=a.block)/\Kept (λ_=>False) w w':=by
 obtain⟨v,h1,h2,h3⟩:=h.ex;obtain⟨A,c,rfl,_,hR,_⟩:=Rs.own h2;obtain⟨S0,B0,Z0⟩:=box_one w [int .i64 0,.slice none 0 0,.string ⟨#[]⟩,.bool false,int .u64 0] 64;have x19:w.cell? ⟨q,19,none⟩=some (int .i64 y.ph):=h1.k 19 rfl;have p3:((y.ph:Int)==3)=true:=by simp;omega
 have HR:=Hd (hR.below B0 (Nat.le_refl _));have hqlt:=h1.lt;have x13:=h1.k 13 rfl;have x14:=h1.k 14 rfl;have x15:=h1.k 15 rfl;have x16:=h1.k 16 rfl;have x17:=h1.k 17 rfl;clear h h1 h2 h3 hR;go_enter func112,ntmps112;go_wp2_with fail;refine(copied_any y.s.lv A c y.s.hi y.s.la y.s.rt y.s.xs _ _ rfl (by omega) HR.o).mono ?_;rintro e w1 ⟨A1,c1,rfl,hO1,hB1⟩;rw[Z0] at hO1 hB1;have S1:=S0.below hB1 (by omega);have HB:=Hd (B0.trans (hB1.mono (by omega)));have HO:=Hd hO1;have y0:=S1.k 0 rfl;have z0:=S1.frozen 0;have y1:=S1.k 1 rfl;have z1:=S1.frozen 1;have y2:=S1.k 2 rfl;have z2:=S1.frozen 2;have y3:=S1.k 3 rfl;have z3:=S1.frozen 3;have y4:=S1.k 4 rfl;have z4:=S1.frozen 4;clear hB1 hO1 S0 B0 Z0 S1 HR;clear x13 x14 x15 x16 x17;go_wp2;refine bodyPost_ret (v:=.agg #[int .i64 y.s.lv,.slice A1 y.s.xs.length c1,.string y.s.hi,.bool y.s.la,int .u64 y.s.rt]) (by first|(simp[results,Tryz.results112,go_sem];done)|(simp[results,Tryz.results112,go_sem, *];done)) rfl ?_;have hO:=own_res (own_less HO.o (by omega:w.heap.size+1<=w.heap.size+1)) (show w.heap.size<w.heap.size+1 by omega) (int .i64 y.s.lv) (.slice A1 y.s.xs.length c1) (.string y.s.hi) (.bool y.s.la) (int .u64 y.s.rt);obtain⟨A2,c2,e2,_,hR2,hA2⟩:=Rs.own hO;cases e2;exact⟨_,_,rfl,hR2,λ a ha=>Nat.le_trans (Nat.le_succ _) (hA2 a ha),bkept (below_res HB.o (Nat.le_refl _) _ _ _ _ _)⟩

theorem nat_toNat{c:Cel}(h:NatCell c):c=((c.1.toNat:Int),c.2.1,(c.2.2.toNat:Int))/\c.1.toNat<18446744073709551616/\c.2.2.toNat<9223372036854775808:=by
 obtain⟨N,M,K,rfl,h1,h2⟩:=h;refine⟨rfl,?_,?_⟩<;>simp<;>omega

theorem Rs.keptF{Y:Nat->Prop}{w w':World}{A:Option Addr}{c:Nat}{xs:List Sl}(h:Rs w A c xs)(hk:Kept Y w w')(hA:∀ a,A=some a->¬ Y a.block):Rs w' A c xs :=
 ⟨h.le,h.max,h.none',λ hp=>by
  obtain⟨g,off,e,hg,hc⟩:=h.some' hp;exact⟨g,off,e,Nat.lt_of_lt_of_le hg hk.size,λ j u hu=>(hk.cell (p:=⟨g,off+j,none⟩) hg (show ¬ Y g from hA _ e)).trans (hc j u hu)⟩⟩
end

section

theorem newOwn_any(T S N C R:Int)(F:Nat)(K fa fb fd:Int)(hl:Lim T S N C R (F:Int))(hd:Reach3 fa fb fd)(nid:Nat)(wd:Nat)(w:World) :
  Calls prog 122 #[.agg #[int .i64 T,int .i64 S,int .i64 N,int .i64 C,int .i64 R,int .i64 F,int .u64 K,int .i64 fa,int .i64 fb,int .i64 fd],int .u64 nid,int .u64 wd] w λ e w'=>∃ q:Nat,e=.returned (.pointer (some ⟨q,0,none⟩))/\Con (λ i=>i=q) w' T S N C R F K fa fb fd q 163 nid cs0 [int .u64 wd,.bool false]/\w.heap.size<=q/\Kept (λ_=>False) w w':=by
 go_enter func122,ntmps122;go_wp2;go_ret;have hB:Blk ((w.alloc (.cells #[int .i64 T,int .i64 S,int .i64 N,int .i64 C,int .i64 R,int .i64 F,int .u64 K,int .i64 fa,int .i64 fb,int .i64 fd] 28)).alloc (.cells ⟨(conv T S N C R F K fa fb fd nid 0 0 0 (.slice none 0 0) ⟨#[]⟩ false 0 [int .u64 wd,.bool false])⟩ 163)) (w.heap.size+1) 163 (conv T S N C R F K fa fb fd nid 0 0 0 (.slice none 0 0) ⟨#[]⟩ false 0 [int .u64 wd,.bool false]):=by have:=Blk.new (w.alloc (.cells #[int .i64 T,int .i64 S,int .i64 N,int .i64 C,int .i64 R,int .i64 F,int .u64 K,int .i64 fa,int .i64 fb,int .i64 fd] 28)) (conv T S N C R F K fa fb fd nid 0 0 0 (.slice none 0 0) ⟨#[]⟩ false 0 [int .u64 wd,.bool false]) 163;rwa [nblk_alloc] at this
 exact⟨w.heap.size+1,rfl,⟨λ i hi=>by subst hi;exact hB.lt,rfl,_,hB,World.ownsRow_nil _ _ _ _,λ i hi=>by cases hi⟩,Nat.le_succ _,((Kept.refl _ _).alloc _).alloc _⟩

theorem ostep_any(Z:Nat->Prop)(T S N C R:Int)(F:Nat)(K fa fb fd:Int)(hl:Lim T S N C R (F:Int))(hd:Reach3 fa fb fd)(q nid:Nat)(s s':Cs)(wd:Nat)(w:World)(h:Con Z w T S N C R F K fa fb fd q 163 nid s [int .u64 wd,.bool false])(b g:Nat)(l:List Cel)(k:Nat)(hm:Mem w b g l k)(hb:¬ Z b)(hg:¬ Z g)(hk:k<9223372036854775808)(hok:Oks F s)(hlt:s.rd=0\/s.rd<s.en)(a0:Int)(had:adr N F fa nid s.rd=a0)
  (nN mM:Nat) (kK:ByteArray) (hc:cellAt l a0=((nN:Int),kK,(mM:Int))) (hN:nN<18446744073709551616) (hM:mM<9223372036854775808) (hs:tk F s nN kK mM=s') (r:Bool) (hr:(s'.rd==s'.en)=r) :
  Calls prog 75 #[.pointer (some ⟨q,0,none⟩),.pointer (some ⟨b,0,none⟩)] w λ e w'=>e=.returned (.bool r)/\Mem w' b g l (k+1)/\∃ Z',Con Z' w' T S N C R F K fa fb fd q 163 nid s' [int .u64 wd,.bool r]/\Kept (λ i=>Z i\/i=b\/i=g) w w'/\(∀ i,Z' i->Z i\/w.heap.size<=i):=by
 obtain⟨v0,h10,h20,h30⟩:=h.ex;have x19:w.cell? ⟨q,19,none⟩=some (.bool false):=h10.k 19 rfl;have hqb:q≠b:=λ e=>hb (e ▸ h.own);have hqg:q≠g:=λ e=>hg (e ▸ h.own);have HH:=Hd h;have HM:=Hd hm;have HC:=Hd hc;have HOK:=Hd hok;have HLT:=Hd hlt;have HS:=Hd hs;have HR:=Hd hr;have HAD:=Hd had;clear h hm hc hok hs hr had h10 h20 h30 hlt;go_enter func75,ntmps75;go_wp2_with fail;refine(cload_any Z T S N C R F K fa fb fd hl hd q 163 nid s s' _ _ HH.o (by decide) b g l k HM.o hb hg hk HOK.o HLT.o a0 HAD.o nN mM kK HC.o hN hM HS.o r HR.o).mono ?_;rintro e w1 ⟨rfl,hM1,Z1,hC1,hK1,hn1⟩;obtain⟨v1,h11,h21,h31⟩:=hC1.ex;have y19:w1.cell? ⟨q,19,none⟩=some (.bool false):=h11.k 19 rfl;have z19:=h11.frozen 19;have HT:=Hd (show Con Z1 (w1.setCell ⟨q,19,none⟩ (.bool r)) T S N C R F K fa fb fd q 163 nid s' [int .u64 wd,.bool r] from hC1.setTail (by decide) 1 (.bool r));have HM2:=Hd (hM1.farq (q:=q) (by unfold Own;omega) 19 (.bool r));have HK2:=Hd (hK1.setCell (a:=⟨q,19,none⟩) (λ_=>.inl HH.o.own) (.bool r));have HN1:=Hd hn1;clear hM1 hC1 hK1 hn1 h11 h21 h31 x19 HH HM HC;go_wp2;go_ret;exact⟨rfl,HM2.o,Z1,HT.o,HK2.o,HN1.o⟩

theorem oheld_any(Z:Nat->Prop)(T S N C R:Int)(F:Nat)(K fa fb fd:Int)(q nid:Nat)(s:Cs)(wd:Nat)(w:World)(h:Con Z w T S N C R F K fa fb fd q 163 nid s [int .u64 wd,.bool true])(h40:s.xs.length<=1099511627776) :
  Calls prog 78 #[.pointer (some ⟨q,0,none⟩)] w λ e w'=>∃ A c,e=.returned (.agg #[int .u64 nid,int .u64 wd,int .i64 s.lv,.slice A s.xs.length c,.string s.hi,.bool s.la,int .u64 s.rt])/\Rs w' A c s.xs/\(∀ a,A=some a->w.heap.size<=a.block)/\Kept (λ_=>False) w w':=by
 obtain⟨v,h1,h2,h3⟩:=h.ex;obtain⟨A,c,rfl,_,hR,_⟩:=Rs.own h2;obtain⟨S0,B0,Z0⟩:=box_one w [int .u64 0,int .u64 0,int .i64 0,.slice none 0 0,.string ⟨#[]⟩,.bool false,int .u64 0] 127;have x19:w.cell? ⟨q,19,none⟩=some (.bool true):=h1.k 19 rfl;have hqlt:=h1.lt;have HR:=Hd (hR.below (B0.trans (Below.refl _ _).drew) (Nat.le_refl _));have HB:=Hd (h1.alloc (.cells #[int .u64 0,int .u64 0,int .i64 0,.slice none 0 0,.string ⟨#[]⟩,.bool false,int .u64 0] 127));clear h h1 h2 h3 hR;go_enter func78,ntmps78;go_upto_region 3 with fail
 clear x19;have HS0:=Hd S0;have HB0:=Hd B0.drew;generalize w.alloc (.cells #[int .u64 0,int .u64 0,int .i64 0,.slice none 0 0,.string ⟨#[]⟩,.bool false,int .u64 0] 127)=W at *;replace HS0:=Hd (show Blk W.drew w.heap.size 127 [int .u64 0,int .u64 0,int .i64 0,.slice none 0 0,.string ⟨#[]⟩,.bool false,int .u64 0] from HS0.o);replace HB:=Hd (HB.o.of (w':=W.drew) rfl);replace Z0:W.drew.heap.size=w.heap.size+1:=Z0;clear S0 B0;refine wp_region_held_drew (S:=(λ w'=>Blk w' q 163 (conv T S N C R F K fa fb fd nid s.rd s.en s.lv (.slice A s.xs.length c) s.hi s.la s.rt [int .u64 wd,.bool true]))) (by kernel_rfl) ?_ (λ hH=>?_)
 ·exact HB.o
 generalize W.drew=G at *;refine tkI 0 9 hH ?_;refine tkI 1 10 hH ?_;refine tkI 2 11 hH ?_;refine tkI 3 12 hH ?_;refine tkI 4 13 hH ?_ (hv:=by intro wq hSw;have x10:=hSw.k 10 rfl;have x13:=hSw.k 13 rfl;have x14:=hSw.k 14 rfl;have x15:=hSw.k 15 rfl;have x16:=hSw.k 16 rfl;have x17:=hSw.k 17 rfl;have x18:=hSw.k 18 rfl;exact qq1);refine tkI 5 14 hH ?_;refine tkI 6 15 hH ?_;refine tkI 7 16 hH ?_;refine tkI 8 17 hH ?_ (hv:=by intro wq hSw;have x10:=hSw.k 10 rfl;have x13:=hSw.k 13 rfl;have x14:=hSw.k 14 rfl;have x15:=hSw.k 15 rfl;have x16:=hSw.k 16 rfl;have x17:=hSw.k 17 rfl;have x18:=hSw.k 18 rfl;exact qq1);refine tkI 9 18 hH ?_;refine tkI 10 19 hH ?_;refine tkI 11 20 hH ?_;refine tkI 12 21 hH ?_;refine tkI 13 22 hH ?_ (hv:=by intro wq hSw;have x10:=hSw.k 10 rfl;have x13:=hSw.k 13 rfl;have x14:=hSw.k 14 rfl;have x15:=hSw.k 15 rfl;have x16:=hSw.k 16 rfl;have x17:=hSw.k 17 rfl;have x18:=hSw.k 18 rfl;exact qq1);refine rdH 14 (some 23) rfl λ KK hK=>?_;go_simp;go_at_call 127;refine(copied_any s.lv A c s.hi s.la s.rt s.xs _ _ rfl (by omega) HR.o).mono ?_;rintro e w1 ⟨A1,c1,rfl,hO1,hB1⟩;rw[Z0] at hO1 hB1;have S1:=HS0.o.below hB1 (by omega);replace HB:=Hd (HB.o.below hB1 (by omega));have HK:=Hd (HB0.o.trans (hB1.mono (by omega)));have HO:=Hd hO1;have y0:=S1.k 0 rfl;have z0:=S1.frozen 0;have y1:=S1.k 1 rfl;have z1:=S1.frozen 1;have y2:=S1.k 2 rfl;have z2:=S1.frozen 2;have y3:=S1.k 3 rfl;have z3:=S1.frozen 3;have y4:=S1.k 4 rfl;have z4:=S1.frozen 4;have y5:=S1.k 5 rfl;have z5:=S1.frozen 5;have y6:=S1.k 6 rfl;have z6:=S1.frozen 6;clear hB1 hO1 S1 HR HS0 HB0;refine hkO hK HB.o λ h2=>?_;replace hH:=h2;clear hK KK h2
 refine tkI 15 24 hH ?_;refine rdH 16 none rfl λ KK hK=>?_;go_simp;replace HB:=Hd (((((((HB.o.other (a:=⟨w.heap.size,0,none⟩) (by simp;omega) (int .u64 nid)).other (a:=⟨w.heap.size,1,none⟩) (by simp;omega) (int .u64 wd)).other (a:=⟨w.heap.size,2,none⟩) (by simp;omega) (int .i64 s.lv)).other (a:=⟨w.heap.size,3,none⟩) (by simp;omega) (.slice A1 s.xs.length c1)).other (a:=⟨w.heap.size,4,none⟩) (by simp;omega) (.string s.hi)).other (a:=⟨w.heap.size,5,none⟩) (by simp;omega) (.bool s.la)).other (a:=⟨w.heap.size,6,none⟩) (by simp;omega) (int .u64 s.rt));refine hkO hK HB.o λ h2=>?_;replace hH:=h2;clear hK KK h2
 refine dnH ?_;clear hH;go_wp2;refine bodyPost_ret (v:=.agg #[int .u64 nid,int .u64 wd,int .i64 s.lv,.slice A1 s.xs.length c1,.string s.hi,.bool s.la,int .u64 s.rt]) (by first|(simp[results,Tryz.results78,go_sem];done)|(simp[results,Tryz.results78,go_sem, *];done)) rfl ?_;have hO:=ownsRow_setCell_below (ownsRow_setCell_below (own_res HO.o (show w.heap.size<w.heap.size+1 by omega) (int .u64 nid) (int .u64 wd) (int .i64 s.lv) (.slice A1 s.xs.length c1) (.string s.hi)) (a:=⟨w.heap.size,5,none⟩) (show w.heap.size<w.heap.size+1 by omega) (.bool s.la)) (a:=⟨w.heap.size,6,none⟩) (show w.heap.size<w.heap.size+1 by omega) (int .u64 s.rt);obtain⟨A2,c2,e2,_,hR2,hA2⟩:=Rs.own hO;cases e2;exact⟨_,_,rfl,hR2,λ a ha=>Nat.le_trans (Nat.le_succ _) (hA2 a ha),bkept (((below_res HK.o (Nat.le_refl _) _ _ _ _ _).setCell (p:=⟨w.heap.size,5,none⟩) (Nat.le_refl _) _).setCell (p:=⟨w.heap.size,6,none⟩) (Nat.le_refl _) _)⟩
end

section
variable [Cf]

def nla(F nid:Nat):Int:=nodeAt Cf.N (F:Int) 10 (nid:Int) 0
def nad(F nid:Nat):Nat->Int:=adr Cf.N (F:Int) 10 (nid:Int)
theorem limF{F:Nat}(h4:4<=F)(h6:F<=6):Lim 1 2 Cf.N Cf.C Cf.R (F:Int):=by
 have:=Cf.n1;have:=Cf.n2;have:=Cf.c1;have:=Cf.c2;have:=Cf.r1;have:=Cf.r2;constructor<;>omega
theorem nla_eq{F nid:Nat}(h1:1<=nid)(h2:nid<=Cf.N):nla F nid=10+(((nid:Int)-1)*(F:Int)+((nid:Int)-1)*4):=by
 unfold nla nodeAt;rw[if_pos (by omega)];omega
theorem nad_eq{F nid:Nat}(h1:1<=nid)(h2:nid<=Cf.N){r:Nat}(hr:r<F+3):nad F nid r=nla F nid+1+(r:Int):=by
 rw[nla_eq h1 h2];unfold nad adr;have hn:∀ p:Int,nodeAt Cf.N (F:Int) 10 (nid:Int) p=10+(((nid:Int)-1)*(F:Int)+((nid:Int)-1)*4)+p:=λ p=>by unfold nodeAt;rw[if_pos (by omega)]
 rcases (by omega:r=0\/r=1\/r=2\/3<=r) with rfl|rfl|rfl|h
 ·rw[if_pos rfl,hn];omega
 ·rw[if_neg (by omega),if_pos rfl,hn];omega
 ·rw[if_neg (by omega),if_neg (by omega),if_pos rfl,hn];omega
 ·rw[if_neg (by omega),if_neg (by omega),if_neg (by omega)]
  unfold slotAt;rw[if_pos (by omega),hn];omega
theorem node_bd{F nid:Nat}(h6:F<=6)(h1:1<=nid)(h2:nid<=Cf.N):0<=((nid:Int)-1)*(F:Int)/\((nid:Int)-1)*(F:Int)<=(Cf.N:Int)*(F:Int)-(F:Int) :=
 ⟨Int.mul_nonneg (by omega) (by omega),by
  have h:((nid:Int)-1)*(F:Int)<=((Cf.N:Int)-1)*(F:Int):=Int.mul_le_mul_of_nonneg_right (by omega) (by omega);rw[Int.sub_mul (Cf.N:Int)] at h;omega⟩

structure Start(F:Nat)(l:List Cel):Prop where
 lo:10+((Cf.N:Int)*(F:Int)+(Cf.N:Int)*4)<=(l.length:Int)
 hi:l.length<=1048576
 nats:Nats l
 zero:∀ i:Int,i≠0->i≠4->i≠nad F 1 1->cellAt l i=cel0
 high:cellAt l (nad F 1 1)=(0,⟨#[]⟩,1)
theorem ads_of{F nid n:Nat}(h4:4<=F)(h6:F<=6)(h1:1<=nid)(h2:nid<=Cf.N)(hn:10+((Cf.N:Int)*(F:Int)+(Cf.N:Int)*4)<=(n:Int)):Ads F (nla F nid) (nad F nid) n:=by
 have hb:=node_bd h6 h1 h2;have hl:=nla_eq (F:=F) h1 h2;refine⟨by omega,λ r hr=>?_,λ r hr=>?_,λ r t hr ht e=>?_⟩
 ·rw[nad_eq h1 h2 hr];omega
 ·rw[nad_eq h1 h2 hr];omega
 ·rw[nad_eq h1 h2 hr,nad_eq h1 h2 ht] at e;omega
theorem start_of{F:Nat}(h4:4<=F)(h6:F<=6):Start F (startCells 1 2 Cf.N Cf.C Cf.R (F:Int)):=by
 have hN1:=Cf.n1;have hN2:=Cf.n2;have hC1:=Cf.c1;have hC2:=Cf.c2;have hR1:=Cf.r1;have hR2:=Cf.r2;have hNF:0<=(Cf.N:Int)*(F:Int)/\(Cf.N:Int)*(F:Int)<=131072:=(limF (F:=F) h4 h6).nf;have hlen:=startCells_length 1 2 Cf.N Cf.C Cf.R (F:Int) (limF h4 h6);have hall:allCells 1 2 Cf.N Cf.C Cf.R (F:Int)=10+((Cf.N:Int)*(F:Int)+(Cf.N:Int)*4)+(Cf.C:Int)+3*(Cf.R:Int):=by
  unfold allCells firstRecord firstChain firstNode;omega
 have he:nodeAt Cf.N (F:Int) (firstNode 1 2) 1 2=nad F 1 1:=rfl;have hlo:(0:Int)<=nad F 1 1/\nad F 1 1=12:=by rw[nad_eq (by omega) (by omega) (by omega),nla_eq (by omega) (by omega)];omega
 have hr:((List.replicate (allCells 1 2 Cf.N Cf.C Cf.R (F:Int)).toNat cel0).length:Int)=allCells 1 2 Cf.N Cf.C Cf.R (F:Int):=by rw[List.length_replicate];omega
 have hc:∀ i:Int,cellAt (startCells 1 2 Cf.N Cf.C Cf.R (F:Int)) i=if nad F 1 1=i then (0,⟨#[]⟩,1) else if i=4 then (1,⟨#[]⟩,0) else if i=0 then (1,⟨#[]⟩,0) else cel0:=λ i=>by
  unfold startCells;rw[he,cellAt_putAt,cellAt_putAt,cellAt_putAt,putAt_length,putAt_length]
  by_cases h1:nad F 1 1=i
  ·rw[if_pos ⟨h1,hlo.1,by omega⟩,if_pos h1]
  ·rw[if_neg (λ h=>h1 h.1),if_neg h1]
   by_cases h2:i=4
   ·rw[if_pos ⟨h2.symm,by omega,by omega⟩,if_pos h2]
   ·rw[if_neg (λ h=>h2 h.1.symm),if_neg h2]
    by_cases h3:i=0
    ·rw[if_pos ⟨h3.symm,by omega,by omega⟩,if_pos h3]
    ·rw[if_neg (λ h=>h3 h.1.symm),if_neg h3]
     exact cellAt_zero _ _
 refine⟨by omega,by omega,λ i=>?_,λ i h0 h4' h1=>?_,?_⟩
 ·rw[hc]
  split
  ·exact⟨0,1,_,rfl,by omega,by omega⟩
  ·split
   ·exact⟨1,0,_,rfl,by omega,by omega⟩
   ·split
    ·exact⟨1,0,_,rfl,by omega,by omega⟩
    ·exact nat0
 ·rw[hc,if_neg (λ e=>h1 e.symm),if_neg h4',if_neg h0]
 ·rw[hc,if_pos rfl]
theorem kitConfig_any(T f:Int)(F:Nat)(hf:4+f%3=(F:Int))(w:World) :
  Calls prog 7 #[int .i64 T,int .i64 f] w λ e w'=>e=.returned (.agg #[int .i64 T,int .i64 2,int .i64 100,int .i64 100,int .i64 200,int .i64 F,int .u64 1000])/\Kept (λ_=>False) w w':=by
 obtain⟨m,hm⟩:∃ m:Nat,f%3=(m:Int):=⟨(f%3).toNat,by omega⟩;have hF:4+(m:Int)=(F:Int):=by omega
 have HM:=Hd hm;have hm3:m<3:=by omega
 clear hf hm;go_enter func7,ntmps7;go_wp2_with fail;refine(mod_of f 3 m _ (by omega) (by omega) HM.o).mono ?_;rintro e w2 ⟨rfl,rfl⟩;go_wp2;refine bodyPost_ret (v:=.agg #[int .i64 T,int .i64 2,int .i64 100,int .i64 100,int .i64 200,int .i64 F,int .u64 1000]) ?_ rfl ⟨rfl,?_⟩
 ·obtain⟨q0,q1,q2,q3,q4,q5,q6⟩:=(Blk.new w [int .i64 T,int .i64 2,int .i64 100,int .i64 100,int .i64 200,int .i64 F,int .u64 1000] 25).c7
  simp[results,Tryz.results7,go_sem,q0,q1,q2,q3,q4,q5,q6]
 ·exact(Kept.refl _ _).alloc _
end

section
variable [Cf]

abbrev Rd (Z:Nat->Prop) (w:World) (F:Nat) (fb fd:Int) (q nid:Nat) (y:Rst):Prop:=Con Z w 1 2 Cf.N Cf.C Cf.R F Cf.K 10 fb fd q 196 nid y.s (rtl y)
def rcell(F nid:Nat)(l:List Cel)(y:Rst):Cel:=cellAt l (raddr (nla F nid) (nad F nid) y)
def rgo(F nid:Nat)(l:List Cel)(y:Rst):Rst:=if y.ph<3 then rnext F y (rcell F nid l y).1.toNat (rcell F nid l y).2.1 (rcell F nid l y).2.2.toNat else y
theorem rgo_ok{F nid:Nat}{l:List Cel}{y:Rst}(h:Okr F y)(hn:Nats l):Okr F (rgo F nid l y):=by
 unfold rgo;split
 ·exact rnext_ok h (by assumption) (nat_toNat (hn _)).2.1
 ·exact h
theorem rstep_go(Z:Nat->Prop)(F:Nat)(h4:4<=F)(h6:F<=6)(fb fd:Int)(hd:Reach3 10 fb fd)(q nid:Nat)(y y':Rst)(w:World)(h:Rd Z w F fb fd q nid y)(hok:Okr F y)(b g:Nat)(l:List Cel)(k k':Nat)(hm:Mem w b g l k)(hb:¬ Z b)(hg:¬ Z g)(hk:k<9223372036854775808)(hn:Nats l)
  (hy:rgo F nid l y=y') (hk':(if y.ph<3 then k+1 else k)=k') (r:Bool) (hr:(y'.ph==3)=r) :
  Calls prog 107 #[.pointer (some ⟨q,0,none⟩),.pointer (some ⟨b,0,none⟩)] w λ e w'=>e=.returned (.bool r)/\Mem w' b g l k'/\∃ Z',Rd Z' w' F fb fd q nid y'/\Kept (λ i=>Z i\/i=b\/i=g) w w'/\(∀ i,Z' i->Z i\/w.heap.size<=i):=by
 by_cases hp:y.ph<3
 ·unfold rgo at hy
  rw[if_pos hp] at hy hk';subst hk';have hc:=nat_toNat (hn (raddr (nla F nid) (nad F nid) y));exact rstep_any Z 1 2 Cf.N Cf.C Cf.R F Cf.K 10 fb fd (limF h4 h6) hd q nid y y' w h hok b g l k hm hb hg hk (raddr (nla F nid) (nad F nid) y) rfl _ _ _ hc.1 hc.2.1 hc.2.2 hp hy r hr
 ·unfold rgo at hy
  rw[if_neg hp] at hy hk';subst hy hk';have h3:y.ph=3:=by have:=hok.ph;omega
  have hr':r=true:=by rw[←hr,h3];rfl
  subst hr';refine(rstep_done Z 1 2 Cf.N Cf.C Cf.R F Cf.K 10 fb fd q nid b y w h h3).mono ?_;rintro e w' ⟨he,rfl⟩;exact⟨he,hm,Z,h,Kept.refl _ _,λ i hi=>.inl hi⟩
end

section

theorem _root_.Go.RowKit.Below.kept0{w w':World}(h:Below w.heap.size w w'):Kept (λ_=>False) w w':=⟨h.os,h.tape,h.output,h.size,λ i hi _=>h.block i hi⟩

end
end Go.Proofs.YtlkgmnjceghpiaaGreat
