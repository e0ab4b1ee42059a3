/-
 How the machines of package node take a node's cells. Condition: a layout within its limits.
-/
import Derived.Test.YtlkgmnjceghpiaaGreatLkLay
import Derived.Test.YtlkgmnjceghpiaaGreatLkPlain
import Derived.Test.YtlkgmnjceghpiaaGreatLkPag
import Derived.Deep.AppendLies
namespace Go.Proofs.YtlkgmnjceghpiaaGreat
open Go.RowKit Go.Deep Plain
set_option linter.unusedVariables false
open _root_.Go.Proofs.Tryz
open Go.Value (int)
set_option maxHeartbeats 8000000
set_option maxRecDepth 100000
section

def conv(T S N C R:Int)(F:Nat)(K fa fb fd:Int)(nid rd en lv:Nat)(v:Value)(hi:ByteArray)(la:Bool)(rt:Nat)(tl:List Value):List Value :=
 int .i64 T :: int .i64 S :: int .i64 N :: int .i64 C :: int .i64 R :: int .i64 F :: int .u64 K :: int .i64 fa :: int .i64 fb :: int .i64 fd :: int .u64 nid :: int .i64 rd :: int .i64 en :: int .i64 lv::v :: .string hi :: .bool la :: int .u64 rt::tl

theorem address_0(T S N C R:Int)(F:Nat)(K fa fb fd:Int)(hl:Lim T S N C R (F:Int))(hd:Reach3 fa fb fd)(q:Nat)(t:TypeId)(nid rd en lv:Nat)(v:Value)(hi:ByteArray)(la:Bool)(rt:Nat)(tl:List Value)(w:World)(h:Blk w q t (conv T S N C R F K fa fb fd nid rd en lv v hi la rt tl))(hrd:rd=0) :
  Calls prog 158 #[.pointer (some ⟨q,0,none⟩)] w λ e w'=>e=.returned (int .i64 (adr N F fa nid rd))/\Kept (λ_=>False) w w':=by
 have h0:((rd:Int)==0)=true:=by simp;omega
 have c11:=h.k 11 rfl;have HB:=Hd h;clear h;go_enter func158,ntmps158;go_upto_region 3 with fail
 clear c11;refine qregion (λ w'=>Kept (λ_=>False) w w'/\Blk w' q t (conv T S N C R F K fa fb fd nid rd en lv v hi la rt tl)) (by kernel_rfl) (by kernel_rfl) ⟨(Kept.refl _ _).drew,HB.o⟩ ?_;refine tkP 9 ?_;refine tkP 10 ?_;refine tkP 11 ?_;refine tkP 12 ?_ (by intro wq hSw;have y0:=(hSw.2).c12;exact qq1);refine tkP 13 ?_;refine tkP 14 ?_;refine tkP 15 ?_;refine tkP 16 ?_ (by intro wq hSw;have y0:=(hSw.2).c12;exact qq1);refine qcall (o:=⟨some 17,_,_,_,_,_⟩) (v:=int .i64 (nodeAt N (F:Int) fa (nid:Int) 1)) (by rfl) (λ wq hSw=>?_) (λ wq hSw=>Calls.mono (head_any T S N C R (F:Int) K fa fb fd (nid:Int) hl hd _) ?_) ?_
 ·(go_simp;try with_reducible rfl)
 ·rintro e w9 ⟨rfl,hk⟩;exact⟨rfl,hSw.1.trans hk kk2,hk.blk hSw.2 id⟩
 try simp only[aP,aA,aZ,aS]
 refine tkP 2 ?_;refine wpQuiet_nil ?_;intro wz hH;obtain⟨hK, -⟩:=hH;clear HB;go_wp2;go_ret;exact⟨ret_int (by unfold adr;rw[if_pos (by omega)]),hK⟩

theorem address_1(T S N C R:Int)(F:Nat)(K fa fb fd:Int)(hl:Lim T S N C R (F:Int))(hd:Reach3 fa fb fd)(q:Nat)(t:TypeId)(nid rd en lv:Nat)(v:Value)(hi:ByteArray)(la:Bool)(rt:Nat)(tl:List Value)(w:World)(h:Blk w q t (conv T S N C R F K fa fb fd nid rd en lv v hi la rt tl))(hrd:rd=1) :
  Calls prog 158 #[.pointer (some ⟨q,0,none⟩)] w λ e w'=>e=.returned (int .i64 (adr N F fa nid rd))/\Kept (λ_=>False) w w':=by
 have h0:((rd:Int)==0)=false:=by simp;omega
 have h1:((rd:Int)==1)=true:=by simp;omega
 have c11:=h.k 11 rfl;have HB:=Hd h;clear h;go_enter func158,ntmps158;go_upto_region 5 with fail
 clear c11;refine qregion (λ w'=>Kept (λ_=>False) w w'/\Blk w' q t (conv T S N C R F K fa fb fd nid rd en lv v hi la rt tl)) (by kernel_rfl) (by kernel_rfl) ⟨(Kept.refl _ _).drew,HB.o⟩ ?_;refine tkP 20 ?_;refine tkP 21 ?_;refine tkP 22 ?_;refine tkP 23 ?_ (by intro wq hSw;have y0:=(hSw.2).c12;exact qq1);refine tkP 24 ?_;refine tkP 25 ?_;refine tkP 26 ?_;refine tkP 27 ?_ (by intro wq hSw;have y0:=(hSw.2).c12;exact qq1);refine qcall (o:=⟨some 28,_,_,_,_,_⟩) (v:=int .i64 (nodeAt N (F:Int) fa (nid:Int) 2)) (by rfl) (λ wq hSw=>?_) (λ wq hSw=>Calls.mono (high_any T S N C R (F:Int) K fa fb fd (nid:Int) hl hd _) ?_) ?_
 ·(go_simp;try with_reducible rfl)
 ·rintro e w9 ⟨rfl,hk⟩;exact⟨rfl,hSw.1.trans hk kk2,hk.blk hSw.2 id⟩
 try simp only[aP,aA,aZ,aS]
 refine tkP 2 ?_;refine wpQuiet_nil ?_;intro wz hH;obtain⟨hK, -⟩:=hH;clear HB;go_wp2;go_ret;exact⟨ret_int (by unfold adr;rw[if_neg (by omega)];rw[if_pos (by omega)]),hK⟩

theorem address_2(T S N C R:Int)(F:Nat)(K fa fb fd:Int)(hl:Lim T S N C R (F:Int))(hd:Reach3 fa fb fd)(q:Nat)(t:TypeId)(nid rd en lv:Nat)(v:Value)(hi:ByteArray)(la:Bool)(rt:Nat)(tl:List Value)(w:World)(h:Blk w q t (conv T S N C R F K fa fb fd nid rd en lv v hi la rt tl))(hrd:rd=2) :
  Calls prog 158 #[.pointer (some ⟨q,0,none⟩)] w λ e w'=>e=.returned (int .i64 (adr N F fa nid rd))/\Kept (λ_=>False) w w':=by
 have h0:((rd:Int)==0)=false:=by simp;omega
 have h1:((rd:Int)==1)=false:=by simp;omega
 have h2:((rd:Int)==2)=true:=by simp;omega
 have c11:=h.k 11 rfl;have HB:=Hd h;clear h;go_enter func158,ntmps158;go_upto_region 7 with fail
 clear c11;refine qregion (λ w'=>Kept (λ_=>False) w w'/\Blk w' q t (conv T S N C R F K fa fb fd nid rd en lv v hi la rt tl)) (by kernel_rfl) (by kernel_rfl) ⟨(Kept.refl _ _).drew,HB.o⟩ ?_;refine tkP 31 ?_;refine tkP 32 ?_;refine tkP 33 ?_;refine tkP 34 ?_ (by intro wq hSw;have y0:=(hSw.2).c12;exact qq1);refine tkP 35 ?_;refine tkP 36 ?_;refine tkP 37 ?_;refine tkP 38 ?_ (by intro wq hSw;have y0:=(hSw.2).c12;exact qq1);refine qcall (o:=⟨some 39,_,_,_,_,_⟩) (v:=int .i64 (nodeAt N (F:Int) fa (nid:Int) 3)) (by rfl) (λ wq hSw=>?_) (λ wq hSw=>Calls.mono (right_any T S N C R (F:Int) K fa fb fd (nid:Int) hl hd _) ?_) ?_
 ·(go_simp;try with_reducible rfl)
 ·rintro e w9 ⟨rfl,hk⟩;exact⟨rfl,hSw.1.trans hk kk2,hk.blk hSw.2 id⟩
 try simp only[aP,aA,aZ,aS]
 refine tkP 2 ?_;refine wpQuiet_nil ?_;intro wz hH;obtain⟨hK, -⟩:=hH;clear HB;go_wp2;go_ret;exact⟨ret_int (by unfold adr;rw[if_neg (by omega)];rw[if_neg (by omega)];rw[if_pos (by omega)]),hK⟩

theorem address_3(T S N C R:Int)(F:Nat)(K fa fb fd:Int)(hl:Lim T S N C R (F:Int))(hd:Reach3 fa fb fd)(q:Nat)(t:TypeId)(nid rd en lv:Nat)(v:Value)(hi:ByteArray)(la:Bool)(rt:Nat)(tl:List Value)(w:World)(h:Blk w q t (conv T S N C R F K fa fb fd nid rd en lv v hi la rt tl))(hrd:3<=rd/\rd<=40) :
  Calls prog 158 #[.pointer (some ⟨q,0,none⟩)] w λ e w'=>e=.returned (int .i64 (adr N F fa nid rd))/\Kept (λ_=>False) w w':=by
 have h0:((rd:Int)==0)=false:=by simp;omega
 have h1:((rd:Int)==1)=false:=by simp;omega
 have h2:((rd:Int)==2)=false:=by simp;omega
 have c11:=h.k 11 rfl;have HB:=Hd h;have hi0:(0:Int)<=(rd:Int)-3:=by omega
 have hw:IntKind.i64.wrap ((rd:Int)-3)=(rd:Int)-3:=by rw[IntKind.wrap_i64];omega
 clear h;go_enter func158,ntmps158;go_upto_region 8 with fail
 clear c11;refine qregion (λ w'=>Kept (λ_=>False) w w'/\Blk w' q t (conv T S N C R F K fa fb fd nid rd en lv v hi la rt tl)) (by kernel_rfl) (by kernel_rfl) ⟨(Kept.refl _ _).drew,HB.o⟩ ?_;refine tkP 40 ?_;refine tkP 41 ?_;refine tkP 42 ?_;refine tkP 43 ?_ (by intro wq hSw;have y0:=(hSw.2).c12;exact qq1);refine tkP 44 ?_;refine tkP 45 ?_;refine tkP 46 ?_;refine tkP 47 ?_ (by intro wq hSw;have y0:=(hSw.2).c12;exact qq1);refine tkP 48 ?_;refine tkP 49 ?_;refine tkP 50 ?_;refine tkP 51 ?_ (by intro wq hSw;have y0:=(hSw.2).c12;exact qq1);refine tkR 52 (int .i64 ((rd:Int)-3)) ?_;refine qcall (o:=⟨some 53,_,_,_,_,_⟩) (v:=int .i64 (slotAt N (F:Int) fa (nid:Int) ((rd:Int)-3))) (by rfl) (λ wq hSw=>?_) (λ wq hSw=>Calls.mono (slot_any T S N C R (F:Int) K fa fb fd (nid:Int) ((rd:Int)-3) hl hd _) ?_) ?_
 ·(go_simp;try with_reducible rfl)
 ·rintro e w9 ⟨rfl,hk⟩;exact⟨rfl,hSw.1.trans hk kk2,hk.blk hSw.2 id⟩
 try simp only[aP,aA,aZ,aS]
 refine tkP 2 ?_;refine wpQuiet_nil ?_;intro wz hH;obtain⟨hK, -⟩:=hH;clear HB;go_wp2;go_ret;exact⟨ret_int (by unfold adr;rw[if_neg (by omega)];rw[if_neg (by omega)];rw[if_neg (by omega)]),hK⟩

theorem address_any(T S N C R:Int)(F:Nat)(K fa fb fd:Int)(hl:Lim T S N C R (F:Int))(hd:Reach3 fa fb fd)(q:Nat)(t:TypeId)(nid rd en lv:Nat)(v:Value)(hi:ByteArray)(la:Bool)(rt:Nat)(tl:List Value)(w:World)(h:Blk w q t (conv T S N C R F K fa fb fd nid rd en lv v hi la rt tl))(hrd:rd<=40)(ad:Int)(had:adr N F fa nid rd=ad) :
  Calls prog 158 #[.pointer (some ⟨q,0,none⟩)] w λ e w'=>e=.returned (int .i64 ad)/\Kept (λ_=>False) w w':=by
 subst had;rcases (by omega:rd=0\/rd=1\/rd=2\/3<=rd) with h0|h0|h0|h0
 ·exact address_0 T S N C R F K fa fb fd hl hd q t nid rd en lv v hi la rt tl w h h0
 ·exact address_1 T S N C R F K fa fb fd hl hd q t nid rd en lv v hi la rt tl w h h0
 ·exact address_2 T S N C R F K fa fb fd hl hd q t nid rd en lv v hi la rt tl w h h0
 ·exact address_3 T S N C R F K fa fb fd hl hd q t nid rd en lv v hi la rt tl w h ⟨h0,hrd⟩
end

section

theorem own_kept{S:Nat->Prop}{w w':World}{base:Nat}{e:TypeId}{size:Nat}{v:Value}{n:Nat}{xs:List Value}(h:w.ownsRow base e size v n xs)(hk:Kept S w w')(hs:∀ i,v.ownBlock=some i->¬ S i):w'.ownsRow base e size v n xs:=by
 refine⟨h.1,?_⟩;rcases h.2 with hn|⟨g,cap,cur,rfl,hb,hg,rest⟩
 ·exact .inl hn
 ·exact .inr ⟨g,cap,cur,rfl,hb,(hk.block g (Array.getElem?_eq_some_iff.1 hg).1 (hs g rfl)).trans hg,rest⟩
theorem own_far{w:World}{base:Nat}{e t:TypeId}{size:Nat}{v:Value}{n q:Nat}{xs ys:List Value}(h:w.ownsRow base e size v n xs)(hq:Blk w q t ys)(ht:t≠e):v.ownBlock≠some q:=by
 rcases h.2 with⟨rfl,_⟩|⟨g,cap,cur,rfl,_,hg,_⟩
 ·intro e;cases e
 ·intro e
  cases e;unfold Blk at hq;rw[hg] at hq;cases hq;exact ht rfl
theorem one_slot(k:ByteArray)(r:Int):∀ u∈[Value.string k,int .u64 r],u.oneCell'=true:=by intro u hu;simp at hu;rcases hu with rfl|rfl<;>rfl
theorem wrap_i(n:Int)(h : -9223372036854775808<=n/\n<9223372036854775808):IntKind.i64.wrap n=n:=by rw[IntKind.wrap_i64];omega
theorem wrap_u(n:Int)(h:0<=n/\n<18446744073709551616):IntKind.u64.wrap n=n:=by rw[IntKind.wrap_u64];omega
theorem fieldF(T S N C R F K:Int)(w:World):(Instr.field 25 (.agg #[int .i64 T,int .i64 S,int .i64 N,int .i64 C,int .i64 R,int .i64 F,int .u64 K]) 5).run prog w=.ok (int .i64 F) w:=by kernel_rfl

theorem take_0(T S N C R:Int)(F:Nat)(K fa fb fd:Int)(hl:Lim T S N C R (F:Int))(hd:Reach3 fa fb fd)(q:Nat)(t:TypeId)(nid rd en lv:Nat)(v:Value)(hi:ByteArray)(la:Bool)(rt:Nat)(tl:List Value)(w:World)(h:Blk w q t (conv T S N C R F K fa fb fd nid rd en lv v hi la rt tl))(hrd:rd=0)(nN mM:Nat)(kK:ByteArray)(hN:nN<18446744073709551616)(hM:mM<9223372036854775808) :
  Calls prog 157 #[.pointer (some ⟨q,0,none⟩),.agg #[int .u64 nN,.string kK,int .u64 mM]] w λ e w'=>e=.returned (.bool false)/\Blk w' q t (((((conv T S N C R F K fa fb fd nid rd en lv v hi la rt tl)).set 13 (int .i64 mM)).set 12 (int .i64 (3+((min nN F:Nat):Int)))).set 11 (int .i64 1))/\Kept (λ i=>i=q) w w':=by
 have hqlt:=h.lt;have hqb:q≠w.heap.size:=by omega
 have h0:((rd:Int)==0)=true:=by simp;omega
 obtain⟨m,hm⟩:∃ m,min nN F=m:=⟨_,rfl⟩;have hF:=hl.f2;have hm1:m<=32:=by omega
 have w1:=wrap_i (mM:Int) (by omega);have w2:=wrap_u (F:Int) (by omega);have w3:=wrap_i (m:Int) (by omega);have w4:=wrap_i (3+(m:Int)) (by omega);have c11:=h.k 11 rfl;have c13:=h.k 13 rfl;have f13:=h.frozen 13;go_enter func157,ntmps157;go_upto_region 5 with fail
 clear c11 c13 f13;have hC:=Blk.new (w.setCell ⟨q,13,none⟩ (int .i64 mM)) [int .u64 nN,.string kK,int .u64 mM] 59;have hsz:(w.setCell ⟨q,13,none⟩ (int .i64 mM)).heap.size=w.heap.size:=by simp[World.setCell]
 rw[hsz] at hC;have HC:=Hd hC;have HQ:=Hd ((h.set 13 (int .i64 mM)).alloc (.cells #[int .u64 nN,.string kK,int .u64 mM] 59));have HK:=Hd (((Kept.refl (λ i=>i=q) w).setCell (a:=⟨q,13,none⟩) (λ_=>rfl) (int .i64 mM)).alloc (.cells #[int .u64 nN,.string kK,int .u64 mM] 59));clear hC hsz;generalize (w.setCell ⟨q,13,none⟩ (int .i64 mM)).alloc (.cells #[int .u64 nN,.string kK,int .u64 mM] 59)=W at *;generalize w.heap.size=bx at *;clear h;refine qtail 13 (λ w'=>Kept (λ_=>False) W w'/\Blk w' q t ((conv T S N C R F K fa fb fd nid rd en lv v hi la rt tl).set 13 (int .i64 mM))/\Blk w' bx 59 [int .u64 nN,.string kK,int .u64 mM]) (by kernel_rfl) (by kernel_rfl) ⟨(Kept.refl _ _).drew,HQ.o,HC.o⟩ ?_;simp only[List.take_succ_cons,List.take_zero,List.drop_succ_cons,List.drop_zero];refine tkP 34 ?_;refine tkP 35 ?_;refine tkP 36 ?_ (by intro wq hSw;have hb9:=hSw.2.1;have hc9:=hSw.2.2;have y0:=hc9.k 0 rfl;have y57:=hb9.c10;clear hb9 hc9;exact qq1);refine tkP 37 ?_;refine tkP 38 ?_;refine tkP 39 ?_;refine tkP 40 ?_ (by intro wq hSw;have hb9:=hSw.2.1;have hc9:=hSw.2.2;have y0:=hc9.k 0 rfl;have y57:=hb9.c10;clear hb9 hc9;exact qq1);refine qcall (o:=⟨some 41,_,_,_,_,_⟩) (v:=.agg #[int .i64 T,int .i64 S,int .i64 N,int .i64 C,int .i64 R,int .i64 F,int .u64 K]) (by rfl) (λ wq hSw=>?_) (λ wq hSw=>Calls.mono (config_any T S N C R (F:Int) K fa fb fd _) ?_) ?_
 ·(go_simp;try with_reducible rfl)
 ·rintro e w9 ⟨rfl,hk⟩;exact⟨rfl,hSw.1.trans hk kk2,hk.blk hSw.2.1 id,hk.blk hSw.2.2 id⟩
 try simp only[aP,aA,aZ,aS]
 refine tkR 42 (int .i64 F) ?_ (by intro wq hSw;have hfd:=fieldF T S N C R (F:Int) K wq;exact qq2);refine tkR 43 (int .u64 F) ?_;refine tkR 44 (int .u64 m) ?_;refine tkR 45 (int .i64 m) ?_;refine tkR 46 (int .i64 (3+(m:Int))) ?_;refine wpQuiet_nil ?_;intro wz hH;obtain⟨hK5,hQ5, -⟩:=hH;clear HC w2 w3 w4;have x11:=hQ5.k 11 rfl;have x12:=hQ5.k 12 rfl;have z11:=hQ5.frozen 11;have z12:=hQ5.frozen 12;have HQ5:=Hd (hQ5.set 12 (int .i64 (3+(m:Int))));have HK5:=Hd ((HK.o.trans hK5 (λ_ _ h=>h.elim)).setCell (a:=⟨q,12,none⟩) (λ_=>rfl) (int .i64 (3+(m:Int))));clear hQ5 hK5 HQ HK;have hr1:((1:Int)==3+(m:Int))=false:=by simp;omega
 go_upto_region 11 with fail
 have hQ6:=HQ5.o.set 11 (int .i64 1);have y11:=hQ6.k 11 rfl;have y12:=hQ6.k 12 rfl;have HQ6:=Hd hQ6;clear hQ6 x11 x12 z11 z12;go_quiet (fail);go_wp2;go_ret;subst hm;exact⟨rfl,HQ6.o.of rfl,(HK5.o.setCell (a:=⟨q,11,none⟩) (λ_=>rfl) _).drewN _⟩

theorem take_1(T S N C R:Int)(F:Nat)(K fa fb fd:Int)(hl:Lim T S N C R (F:Int))(hd:Reach3 fa fb fd)(q:Nat)(t:TypeId)(nid rd en lv:Nat)(v:Value)(hi:ByteArray)(la:Bool)(rt:Nat)(tl:List Value)(w:World)(h:Blk w q t (conv T S N C R F K fa fb fd nid rd en lv v hi la rt tl))(hrd:rd=1)(hen:en<=40)(nN mM:Nat)(kK:ByteArray)(hN:nN<18446744073709551616)(hM:mM<9223372036854775808)(r:Bool)(hr:(2==en)=r) :
  Calls prog 157 #[.pointer (some ⟨q,0,none⟩),.agg #[int .u64 nN,.string kK,int .u64 mM]] w λ e w'=>e=.returned (.bool r)/\Blk w' q t (((((conv T S N C R F K fa fb fd nid rd en lv v hi la rt tl)).set 15 (.string kK)).set 16 (.bool (mM==1))).set 11 (int .i64 2))/\Kept (λ i=>i=q) w w':=by
 have hqlt:=h.lt;have hqb:q≠w.heap.size:=by omega
 have h0:((rd:Int)==0)=false:=by simp;omega
 have h1:((rd:Int)==1)=true:=by simp;omega
 have c11:=h.k 11 rfl;have hM1:((mM:Int)==1)=(mM==1):=by rw[Bool.eq_iff_iff];simp;omega
 go_enter func157,ntmps157;go_upto_region 7 with fail
 have hC:=Blk.new (w) [int .u64 nN,.string kK,int .u64 mM] 59;have HC:=Hd hC;have HQ:=Hd (h.alloc (.cells #[int .u64 nN,.string kK,int .u64 mM] 59));have HK:=Hd ((Kept.refl (λ i=>i=q) w).alloc (.cells #[int .u64 nN,.string kK,int .u64 mM] 59));clear hC;generalize w.alloc (.cells #[int .u64 nN,.string kK,int .u64 mM] 59)=W at *;generalize w.heap.size=bx at *;clear h c11 hqlt;obtain⟨y0,y1,y2⟩:=HC.o.c3;have x15:=HQ.o.k 15 rfl;have z15:=HQ.o.frozen 15;have x16:=HQ.o.k 16 rfl;have z16:=HQ.o.frozen 16;have x11:=HQ.o.k 11 rfl;have z11:=HQ.o.frozen 11;have x12:=HQ.o.k 12 rfl;have z12:=HQ.o.frozen 12;go_region;have hr1:((2:Int)==(en:Int))=r:=by rw[←hr];rw[Bool.eq_iff_iff];simp;omega
 have HQ6:=Hd (((HQ.o.set 15 (.string kK)).set 16 (.bool (mM==1))).set 11 (int .i64 2));have HK6:=Hd (((HK.o.setCell (a:=⟨q,15,none⟩) (λ_=>rfl) (.string kK)).setCell (a:=⟨q,16,none⟩) (λ_=>rfl) (.bool (mM==1))).setCell (a:=⟨q,11,none⟩) (λ_=>rfl) (int .i64 2));have rdv:((rd:Int)+1)=2:=by omega
 go_upto_region 11 with fail
 clear x11 z11;have hQ6:=HQ6.o;have y11:=hQ6.k 11 rfl;have y12:=hQ6.k 12 rfl;clear hQ6 x12 z12;go_quiet (fail);go_wp2;go_ret;exact⟨rfl,HQ6.o.of rfl,HK6.o.drew.drewN _⟩

theorem take_2(T S N C R:Int)(F:Nat)(K fa fb fd:Int)(hl:Lim T S N C R (F:Int))(hd:Reach3 fa fb fd)(q:Nat)(t:TypeId)(nid rd en lv:Nat)(v:Value)(hi:ByteArray)(la:Bool)(rt:Nat)(tl:List Value)(w:World)(h:Blk w q t (conv T S N C R F K fa fb fd nid rd en lv v hi la rt tl))(hrd:rd=2)(hen:en<=40)(nN mM:Nat)(kK:ByteArray)(hN:nN<18446744073709551616)(hM:mM<9223372036854775808)(r:Bool)(hr:(3==en)=r) :
  Calls prog 157 #[.pointer (some ⟨q,0,none⟩),.agg #[int .u64 nN,.string kK,int .u64 mM]] w λ e w'=>e=.returned (.bool r)/\Blk w' q t ((((conv T S N C R F K fa fb fd nid rd en lv v hi la rt tl)).set 17 (int .u64 nN)).set 11 (int .i64 3))/\Kept (λ i=>i=q) w w':=by
 have hqlt:=h.lt;have hqb:q≠w.heap.size:=by omega
 have h0:((rd:Int)==0)=false:=by simp;omega
 have h1:((rd:Int)==1)=false:=by simp;omega
 have h2:((rd:Int)==2)=true:=by simp;omega
 have c11:=h.k 11 rfl;go_enter func157,ntmps157;go_upto_region 9 with fail
 have hC:=Blk.new (w) [int .u64 nN,.string kK,int .u64 mM] 59;have HC:=Hd hC;have HQ:=Hd (h.alloc (.cells #[int .u64 nN,.string kK,int .u64 mM] 59));have HK:=Hd ((Kept.refl (λ i=>i=q) w).alloc (.cells #[int .u64 nN,.string kK,int .u64 mM] 59));clear hC;generalize w.alloc (.cells #[int .u64 nN,.string kK,int .u64 mM] 59)=W at *;generalize w.heap.size=bx at *;clear h c11 hqlt;obtain⟨y0,y1,y2⟩:=HC.o.c3;have x17:=HQ.o.k 17 rfl;have z17:=HQ.o.frozen 17;have x11:=HQ.o.k 11 rfl;have z11:=HQ.o.frozen 11;have x12:=HQ.o.k 12 rfl;have z12:=HQ.o.frozen 12;have hr1:((3:Int)==(en:Int))=r:=by rw[←hr];rw[Bool.eq_iff_iff];simp;omega
 have HQ6:=Hd ((HQ.o.set 17 (int .u64 nN)).set 11 (int .i64 3));have HK6:=Hd ((HK.o.setCell (a:=⟨q,17,none⟩) (λ_=>rfl) (int .u64 nN)).setCell (a:=⟨q,11,none⟩) (λ_=>rfl) (int .i64 3));have rdv:((rd:Int)+1)=3:=by omega
 go_upto_region 11 with fail
 clear x11 z11;have hQ6:=HQ6.o;have y11:=hQ6.k 11 rfl;have y12:=hQ6.k 12 rfl;clear hQ6 x12 z12;go_quiet (fail);go_wp2;go_ret;exact⟨rfl,HQ6.o.of rfl,HK6.o.drewN _⟩

theorem take_3(T S N C R:Int)(F:Nat)(K fa fb fd:Int)(hl:Lim T S N C R (F:Int))(hd:Reach3 fa fb fd)(q:Nat)(t:TypeId)(nid rd en lv:Nat)(v:Value)(hi:ByteArray)(la:Bool)(rt:Nat)(tl:List Value)(xs:List Sl)(n:Nat)(w:World)(h:Blk w q t (conv T S N C R F K fa fb fd nid rd en lv v hi la rt tl))(hown:w.ownsRow 0 70 2 v n (flat xs))(ht:t≠70)(hn:n<=1000)(hrd:3<=rd/\rd<=1000)(hen:en<=1000)(nN mM:Nat)(kK:ByteArray)(hN:nN<18446744073709551616)(hM:mM<9223372036854775808)(r:Bool)(hr:(rd+1==en)=r) :
  Calls prog 157 #[.pointer (some ⟨q,0,none⟩),.agg #[int .u64 nN,.string kK,int .u64 mM]] w λ e w'=>e=.returned (.bool r)/\∃ g cap,Blk w' q t ((((conv T S N C R F K fa fb fd nid rd en lv v hi la rt tl)).set 14 (.slice (some ⟨g,0,none⟩) (n+1) cap)).set 11 (int .i64 ((rd:Int)+1)))/\w'.ownsRow 0 70 2 (.slice (some ⟨g,0,none⟩) (n+1) cap) (n+1) (flat xs++[.string kK,int .u64 nN])/\(v.ownBlock=some g\/w.heap.size<=g)/\Kept (λ i=>i=q\/v.ownBlock=some i) w w':=by
 have hqlt:=h.lt;have hqb:q≠w.heap.size:=by omega
 have h0:((rd:Int)==0)=false:=by simp;omega
 have h1:((rd:Int)==1)=false:=by simp;omega
 have h2:((rd:Int)==2)=false:=by simp;omega
 have c11:=h.k 11 rfl;have hvq:=own_far hown h ht;have HO:=Hd (hown.alloc (.cells #[int .u64 nN,.string kK,int .u64 mM] 59));have hvb:v.ownBlock≠some w.heap.size:=λ e=>by have:=(hown.lt _ e).2;omega
 obtain⟨i0,hi0,hz0,hz1,hz2⟩:=info_parts Tryz.info70;have HI0:=Hd hi0;have HI1:=Hd hz0;have HI2:=Hd hz1;have HI3:=Hd hz2;clear hi0 hz0 hz1 hz2 hown;go_enter func157,ntmps157;go_upto_region 2 with fail
 have hC:=Blk.new (w) [int .u64 nN,.string kK,int .u64 mM] 59;have HC:=Hd hC;have HQ:=Hd (h.alloc (.cells #[int .u64 nN,.string kK,int .u64 mM] 59));have HK:=Hd ((Kept.refl (λ i=>i=q\/v.ownBlock=some i) w).alloc (.cells #[int .u64 nN,.string kK,int .u64 mM] 59));clear hC;have hws:w.heap.size<=(w.alloc (.cells #[int .u64 nN,.string kK,int .u64 mM] 59)).heap.size:=by rw[nblk_alloc];omega
 have HWS:=Hd (Nat.le_refl w.heap.size);generalize w.alloc (.cells #[int .u64 nN,.string kK,int .u64 mM] 59)=W at *;generalize hbx:w.heap.size=bx at *;have HBX:=Hd hbx;clear hbx;clear h c11 HWS;have hvb':bx≠q:=λ e=>hqb e.symm;replace HQ:=Hd (show Blk W.drew q t (conv T S N C R F K fa fb fd nid rd en lv v hi la rt tl) from HQ.o);replace HC:=Hd (show Blk W.drew bx 59 [int .u64 nN,.string kK,int .u64 mM] from HC.o);replace HK:=Hd HK.o.drew;replace HO:=Hd HO.o.drew;replace hws:bx<=W.drew.heap.size:=hws;refine region_E 16 (λ w'=>Blk w' q t (conv T S N C R F K fa fb fd nid rd en lv v hi la rt tl)/\Blk w' bx 59 [int .u64 nN,.string kK,int .u64 mM]) (by kernel_rfl) ?_ (λ hH=>?_)
 ·exact⟨HQ.o,HC.o⟩
 generalize W.drew=G at *;refine anyE_take (i:=0) (oi:=⟨some 9,_,_,_,_,_⟩) (v:=?_) rfl (by kernel_rfl) (by kernel_rfl) (by kernel_rfl) (by kernel_rfl) (λ_ _ _ h=>h) (Or.inl ⟨by rfl,?_⟩) hH ?_;rotate_left
 ·(intro wq hSw;go_simp;try with_reducible rfl)
 try simp only[aP,aA,aZ,aS]
 refine anyE_take (i:=1) (oi:=⟨some 10,_,_,_,_,_⟩) (v:=?_) rfl (by kernel_rfl) (by kernel_rfl) (by kernel_rfl) (by kernel_rfl) (λ_ _ _ h=>h) (Or.inl ⟨by rfl,?_⟩) hH ?_;rotate_left
 ·(intro wq hSw;go_simp;try with_reducible rfl)
 try simp only[aP,aA,aZ,aS]
 refine anyE_take (i:=2) (oi:=⟨some 11,_,_,_,_,_⟩) (v:=?_) rfl (by kernel_rfl) (by kernel_rfl) (by kernel_rfl) (by kernel_rfl) (λ_ _ _ h=>h) (Or.inl ⟨by rfl,?_⟩) hH ?_;rotate_left
 ·(intro wq hSw;go_simp;try with_reducible rfl)
 try simp only[aP,aA,aZ,aS]
 refine anyE_take (i:=3) (oi:=⟨some 12,_,_,_,_,_⟩) (v:=?_) rfl (by kernel_rfl) (by kernel_rfl) (by kernel_rfl) (by kernel_rfl) (λ_ _ _ h=>h) (Or.inl ⟨by rfl,?_⟩) hH ?_;rotate_left
 ·(intro wq hSw;go_simp;try with_reducible rfl)
 try simp only[aP,aA,aZ,aS]
 refine anyE_take (i:=4) (oi:=⟨some 13,_,_,_,_,_⟩) (v:=?_) rfl (by kernel_rfl) (by kernel_rfl) (by kernel_rfl) (by kernel_rfl) (λ_ _ _ h=>h) (Or.inl ⟨by rfl,?_⟩) hH ?_;rotate_left
 ·(intro wq hSw;go_simp;try with_reducible rfl)
 try simp only[aP,aA,aZ,aS]
 refine anyE_take (i:=5) (oi:=⟨some 14,_,_,_,_,_⟩) (v:=?_) rfl (by kernel_rfl) (by kernel_rfl) (by kernel_rfl) (by kernel_rfl) (λ_ _ _ h=>h) (Or.inl ⟨by rfl,?_⟩) hH ?_;rotate_left
 ·(intro wq hSw;obtain⟨hb9,hc9⟩:=hSw;have x14:=hb9.k 14 rfl;have y0:=hc9.k 0 rfl;have y1:=hc9.k 1 rfl;clear hb9 hc9;go_simp;try with_reducible rfl)
 try simp only[aP,aA,aZ,aS]
 refine anyE_take (i:=6) (oi:=⟨some 15,_,_,_,_,_⟩) (v:=?_) rfl (by kernel_rfl) (by kernel_rfl) (by kernel_rfl) (by kernel_rfl) (λ_ _ _ h=>h) (Or.inl ⟨by rfl,?_⟩) hH ?_;rotate_left
 ·(intro wq hSw;go_simp;try with_reducible rfl)
 try simp only[aP,aA,aZ,aS]
 refine anyE_take (i:=7) (oi:=⟨some 16,_,_,_,_,_⟩) (v:=?_) rfl (by kernel_rfl) (by kernel_rfl) (by kernel_rfl) (by kernel_rfl) (λ_ _ _ h=>h) (Or.inl ⟨by rfl,?_⟩) hH ?_;rotate_left
 ·(intro wq hSw;obtain⟨hb9,hc9⟩:=hSw;have x14:=hb9.k 14 rfl;have y0:=hc9.k 0 rfl;have y1:=hc9.k 1 rfl;clear hb9 hc9;go_simp;try with_reducible rfl)
 try simp only[aP,aA,aZ,aS]
 refine anyE_take (i:=8) (oi:=⟨some 17,_,_,_,_,_⟩) (v:=?_) rfl (by kernel_rfl) (by kernel_rfl) (by kernel_rfl) (by kernel_rfl) (λ_ _ _ h=>h) (Or.inl ⟨by rfl,?_⟩) hH ?_;rotate_left
 ·(intro wq hSw;go_simp;try with_reducible rfl)
 try simp only[aP,aA,aZ,aS]
 refine anyE_take (i:=9) (oi:=⟨some 18,_,_,_,_,_⟩) (v:=?_) rfl (by kernel_rfl) (by kernel_rfl) (by kernel_rfl) (by kernel_rfl) (λ_ _ _ h=>h) (Or.inl ⟨by rfl,?_⟩) hH ?_;rotate_left
 ·(intro wq hSw;obtain⟨hb9,hc9⟩:=hSw;have x14:=hb9.k 14 rfl;have y0:=hc9.k 0 rfl;have y1:=hc9.k 1 rfl;clear hb9 hc9;go_simp;try with_reducible rfl)
 try simp only[aP,aA,aZ,aS]
 refine anyE_take (i:=10) (oi:=⟨some 19,_,_,_,_,_⟩) (v:=?_) rfl (by kernel_rfl) (by kernel_rfl) (by kernel_rfl) (by kernel_rfl) (λ_ _ _ h=>h) (Or.inl ⟨by rfl,?_⟩) hH ?_;rotate_left
 ·(intro wq hSw;go_simp;try with_reducible rfl)
 try simp only[aP,aA,aZ,aS]
 refine anyE_ready (i:=11) (o:=⟨some 20,_,_,_,_,_⟩) (by kernel_rfl) rfl (λ KK hK=>?_);go_simp;have HNb:=Hd (show (G.alloc (.cells #[.string kK,int .u64 nN] 70)).heap[G.heap.size]? = some (.cells #[.string kK,int .u64 nN] 70 (0,0)) from Blk.new G [.string kK,int .u64 nN] 70);replace HQ:=Hd (HQ.o.alloc (.cells #[.string kK,int .u64 nN] 70));replace HC:=Hd (HC.o.alloc (.cells #[.string kK,int .u64 nN] 70));replace HK:=Hd (HK.o.alloc (.cells #[.string kK,int .u64 nN] 70));replace HO:=Hd (HO.o.alloc (.cells #[.string kK,int .u64 nN] 70));have hws2:bx<=(G.alloc (.cells #[.string kK,int .u64 nN] 70)).heap.size:=by rw[nblk_alloc];omega
 generalize G.alloc (.cells #[.string kK,int .u64 nN] 70)=V at *;refine hK.out _ _ (λ_=>?_) (λ hHeld2=>?_)
 ·exact⟨HQ.o,HC.o⟩
 clear hK KK hH;have hH:=hHeld2 (by decide);clear hHeld2
 try simp only[aP,aA,aZ,aS]
 refine anyE_ready (i:=12) (o:=⟨some 21,_,_,_,_,_⟩) (by kernel_rfl) rfl (λ KK hK=>?_);refine step_append_lies _ (by rfl) (.tmp 14) (.tmp 20) 62 (by rfl) 0 70 i0 _ 2 24 Tryz.underlying62 HI0.o HI1.o HI2.o HI3.o rfl (by decide) v n (flat xs) (by rfl) HO.o ⟨G.heap.size,0,none⟩ 1 1 [.string kK,int .u64 nN] (by rfl) (by rfl) (World.news_of_block HNb.o) (one_slot _ _) (by omega) (by unfold maxLen;omega) (by omega) (Nat.zero_le _) _ rfl ?_;intro g4 cap4 w4 hown4 hgrow4 hat4 hlt4;replace HQ:=Hd (HQ.o.of (hgrow4.block q HQ.o.lt (λ e=>hvq e.symm)));replace HC:=Hd (HC.o.of (hgrow4.block bx HC.o.lt (λ e=>hvb e.symm)));replace HK:=Hd (HK.o.grown hgrow4 (λ k hk _=>.inr hk));replace HO:=Hd hown4;have HAT:=Hd (show v.ownBlock=some g4\/bx<=g4 by rcases hat4 with h|h;exact .inl h;exact .inr (by omega));have hvq4:∀ i,(Value.slice (some ⟨g4,0,none⟩) (n+1) cap4).ownBlock=some i->¬ (i=q):=λ i hi e=>by
  subst e;exact own_far hown4 HQ.o ht hi
 have x14:=HQ.o.k 14 rfl;have z14:=HQ.o.frozen 14;clear hown4 hgrow4 hat4 hlt4 HNb hws2 HI0 HI1 HI2 HI3 hvq hvb hws;refine hK.out _ _ (λ_=>?_) (λ hHeld2=>?_)
 ·exact⟨HQ.o,HC.o⟩
 clear hK KK hH;have hH:=hHeld2 (by decide);clear hHeld2
 try simp only[aP,aA,aZ,aS]
 refine anyE_ready (i:=13) (o:=⟨some 22,_,_,_,_,_⟩) (by kernel_rfl) rfl (λ KK hK=>?_);go_simp;refine hK.out _ _ (λ_=>?_) (λ hHeld2=>?_)
 ·exact⟨HQ.o,HC.o⟩
 clear hK KK hH;have hH:=hHeld2 (by decide);clear hHeld2
 try simp only[aP,aA,aZ,aS]
 refine anyE_ready (i:=14) (o:=⟨some 23,_,_,_,_,_⟩) (by kernel_rfl) rfl (λ KK hK=>?_);go_simp;refine hK.out _ _ (λ_=>?_) (λ hHeld2=>?_)
 ·exact⟨HQ.o,HC.o⟩
 clear hK KK hH;have hH:=hHeld2 (by decide);clear hHeld2
 try simp only[aP,aA,aZ,aS]
 refine anyE_take (i:=15) (oi:=⟨some 24,_,_,_,_,_⟩) (v:=?_) rfl (by kernel_rfl) (by kernel_rfl) (by kernel_rfl) (by kernel_rfl) (λ_ _ _ h=>h) (Or.inl ⟨by rfl,?_⟩) hH ?_;rotate_left
 ·(intro wq hSw;go_simp;try with_reducible rfl)
 try simp only[aP,aA,aZ,aS]
 refine anyE_ready (i:=16) (o:=⟨none,_,_,_,_,_⟩) (by kernel_rfl) rfl (λ KK hK=>?_);go_simp;have HKs:=(Kept.refl (λ i=>i=q) w4).setCell (a:=⟨q,14,none⟩) (λ_=>rfl) (.slice (some ⟨g4,0,none⟩) (n+1) cap4);replace HO:=Hd (own_kept HO.o HKs hvq4);replace HQ:=Hd (HQ.o.set 14 (.slice (some ⟨g4,0,none⟩) (n+1) cap4));replace HK:=Hd (HK.o.setCell (a:=⟨q,14,none⟩) (λ_=>.inl rfl) (.slice (some ⟨g4,0,none⟩) (n+1) cap4));clear HKs HC x14 z14;generalize w4.setCell ⟨q,14,none⟩ (.slice (some ⟨g4,0,none⟩) (n+1) cap4)=V4 at *;refine hK.out _ _ (λ h=>absurd rfl h) (λ_=>?_);clear hK KK hH
 try simp only[aP,aA,aZ,aS]
 refine anyE_done (by kernel_rfl) ?_ _;have x11:=HQ.o.k 11 rfl;have z11:=HQ.o.frozen 11;have hw1:=wrap_i ((rd:Int)+1) (by omega);have hr1:((rd:Int)+1==(en:Int))=r:=by rw[←hr];rw[Bool.eq_iff_iff];simp;omega
 have hQ6:=HQ.o.set 11 (int .i64 ((rd:Int)+1));have hO6:=own_kept HO.o ((Kept.refl (λ i=>i=q) V4).setCell (a:=⟨q,11,none⟩) (λ_=>rfl) (int .i64 ((rd:Int)+1))) hvq4;have HO6:=Hd hO6;have HK6:=Hd (HK.o.setCell (a:=⟨q,11,none⟩) (λ_=>.inl rfl) (int .i64 ((rd:Int)+1)));have y11:=hQ6.k 11 rfl;have y12:=hQ6.k 12 rfl;have HQ6:=Hd hQ6;clear hQ6 hO6 HQ HO HK hvq4;go_upto_region 11 with fail
 clear x11 z11;go_quiet (fail);go_wp2;go_ret;exact⟨rfl,g4,cap4,HQ6.o.of rfl,own_kept HO6.o ((Kept.refl (λ_=>False) _).drewN _) kk2,(by rw[HBX.o];exact HAT.o),HK6.o.drewN _⟩
end

section

structure Con(Z:Nat->Prop)(w:World)(T S N C R:Int)(F:Nat)(K fa fb fd:Int)(q:Nat)(t:TypeId)(nid:Nat)(s:Cs)(tl:List Value):Prop where
 lt:∀ i,Z i->i<w.heap.size
 own:Z q
 ex:∃ v,Blk w q t (conv T S N C R F K fa fb fd nid s.rd s.en s.lv v s.hi s.la s.rt tl)/\w.ownsRow 0 70 2 v s.xs.length (flat s.xs)/\∀ i,v.ownBlock=some i->Z i
section
variable {Z Y:Nat->Prop} {w w':World} {T S N C R:Int} {F:Nat} {K fa fb fd:Int} {q:Nat} {t:TypeId} {nid:Nat} {s:Cs} {tl:List Value}
theorem Con.kept(h:Con Z w T S N C R F K fa fb fd q t nid s tl)(hk:Kept Y w w')(hd:∀ i,Z i->¬ Y i):Con Z w' T S N C R F K fa fb fd q t nid s tl :=
 let ⟨v,h1,h2,h3⟩:=h.ex
 ⟨λ i hi=>Nat.lt_of_lt_of_le (h.lt i hi) hk.size,h.own,v,hk.blk h1 (hd q h.own),own_kept h2 hk (λ i hi=>hd i (h3 i hi)),h3⟩
theorem Con.setTail(h:Con Z w T S N C R F K fa fb fd q t nid s tl)(ht:t≠70)(i:Nat)(u:Value):Con Z (w.setCell ⟨q,18+i,none⟩ u) T S N C R F K fa fb fd q t nid s (tl.set i u):=by
 obtain⟨v,h1,h2,h3⟩:=h.ex;have hk:=(Kept.refl (λ i=>i=q) w).setCell (a:=⟨q,18+i,none⟩) (λ_=>rfl) u;refine⟨λ j hj=>Nat.lt_of_lt_of_le (h.lt j hj) hk.size,h.own,v,?_,own_kept h2 hk (λ j hj e=>own_far h2 h1 ht (by rw[hj,e])),h3⟩;have e:(conv T S N C R F K fa fb fd nid s.rd s.en s.lv v s.hi s.la s.rt tl).set (18+i) u=(conv T S N C R F K fa fb fd nid s.rd s.en s.lv v s.hi s.la s.rt (tl.set i u)):=by
  rw[Nat.add_comm];rfl
 rw[←e];exact h1.set _ _
end

theorem take_any(Z:Nat->Prop)(T S N C R:Int)(F:Nat)(K fa fb fd:Int)(hl:Lim T S N C R (F:Int))(hd:Reach3 fa fb fd)(q:Nat)(t:TypeId)(nid:Nat)(s s':Cs)(tl:List Value)(w:World)(h:Con Z w T S N C R F K fa fb fd q t nid s tl)(ht:t≠70)(hok:Oks F s)(hlt:s.rd=0\/s.rd<s.en)
  (nN mM:Nat) (kK:ByteArray) (hN:nN<18446744073709551616) (hM:mM<9223372036854775808) (hs:tk F s nN kK mM=s') (r:Bool) (hr:(s'.rd==s'.en)=r) :
  Calls prog 157 #[.pointer (some ⟨q,0,none⟩),.agg #[int .u64 nN,.string kK,int .u64 mM]] w λ e w'=>e=.returned (.bool r)/\∃ Z',Con Z' w' T S N C R F K fa fb fd q t nid s' tl/\Kept Z w w'/\(∀ i,Z' i->Z i\/w.heap.size<=i):=by
 obtain⟨v,h1,h2,h3⟩:=h.ex;have hF:=hl.f2;have hrd:=hok.lt;have hx:=hok.xs;have hkq:∀{w':World},Kept (λ i=>i=q) w w'->Kept Z w w':=λ hk=>hk.mono (λ i e=>by subst e;exact h.own);have hfar:=own_far h2 h1 ht;have hlt':∀{w':World},Kept (λ i=>i=q) w w'->∀ i,Z i->i<w'.heap.size:=λ hk i hi=>Nat.lt_of_lt_of_le (h.lt i hi) hk.size;have hrow:∀{w':World},Kept (λ i=>i=q) w w'->w'.ownsRow 0 70 2 v s.xs.length (flat s.xs):=λ hk=>own_kept h2 hk (λ i hi e=>hfar (by rw[hi,e]));have hen:s.en<=40:=by
  by_cases h0:s.rd=0
  ·rw[hok.zero h0];show 0<=40;omega
  ·have:=hok.en (by omega);omega
 rcases (by omega:s.rd=0\/s.rd=1\/s.rd=2\/3<=s.rd) with h0|h0|h0|h0
 ·have e:s'={ s with rd:=1,en:=3+min nN F,lv:=mM }:=by rw[←hs];unfold tk;rw[if_pos h0]
  subst e;obtain rfl:false=r:=by rw[←hr];show false=(1==3+min nN F);symm;simp;omega
  refine(take_0 T S N C R F K fa fb fd hl hd q t nid s.rd s.en s.lv v s.hi s.la s.rt tl w h1 h0 nN mM kK hN hM).mono ?_;rintro e w' ⟨he,hB,hk⟩;exact⟨he,Z,⟨hlt' hk,h.own,v,hB,hrow hk,h3⟩,hkq hk,λ i hi=>.inl hi⟩
 ·have e:s'={ s with rd:=2,hi:=kK,la:=mM==1 }:=by rw[←hs];unfold tk;rw[if_neg (by omega),if_pos h0]
  subst e;refine(take_1 T S N C R F K fa fb fd hl hd q t nid s.rd s.en s.lv v s.hi s.la s.rt tl w h1 h0 hen nN mM kK hN hM r hr).mono ?_;rintro e w' ⟨he,hB,hk⟩;exact⟨he,Z,⟨hlt' hk,h.own,v,hB,hrow hk,h3⟩,hkq hk,λ i hi=>.inl hi⟩
 ·have e:s'={ s with rd:=3,rt:=nN }:=by rw[←hs];unfold tk;rw[if_neg (by omega),if_neg (by omega),if_pos h0]
  subst e;refine(take_2 T S N C R F K fa fb fd hl hd q t nid s.rd s.en s.lv v s.hi s.la s.rt tl w h1 h0 hen nN mM kK hN hM r hr).mono ?_;rintro e w' ⟨he,hB,hk⟩;exact⟨he,Z,⟨hlt' hk,h.own,v,hB,hrow hk,h3⟩,hkq hk,λ i hi=>.inl hi⟩
 ·have e:s'={ s with rd:=s.rd+1,xs:=s.xs++[(kK,nN)] }:=by rw[←hs];unfold tk;rw[if_neg (by omega),if_neg (by omega),if_neg (by omega)]
  subst e;refine(take_3 T S N C R F K fa fb fd hl hd q t nid s.rd s.en s.lv v s.hi s.la s.rt tl s.xs s.xs.length w h1 h2 ht (by omega) ⟨h0,by omega⟩ (by omega) nN mM kK hN hM r hr).mono ?_;rintro e w' ⟨he,g,cap,hB,hO,hat,hk⟩;refine⟨he,λ i=>Z i\/i=g,⟨λ i hi=>?_,.inl h.own,_,hB,?_,λ i hi=>.inr (by cases hi;rfl)⟩,hk.mono (λ i hi=>?_),λ i hi=>?_⟩
  ·rcases hi with hi|rfl
   ·exact Nat.lt_of_lt_of_le (h.lt i hi) hk.size
   ·exact(hO.lt i rfl).2
  ·simp only[List.length_append,List.length_cons,List.length_nil,flat_append];exact hO
  ·rcases hi with rfl|hi
   ·exact h.own
   ·exact h3 i hi
  ·rcases hi with hi|rfl
   ·exact .inl hi
   ·rcases hat with hat|hat
    ·exact .inl (h3 i hat)
    ·exact .inr hat

theorem cload_any(Z:Nat->Prop)(T S N C R:Int)(F:Nat)(K fa fb fd:Int)(hl:Lim T S N C R (F:Int))(hd:Reach3 fa fb fd)(q:Nat)(t:TypeId)(nid:Nat)(s s':Cs)(tl:List Value)(w:World)(h:Con Z w T S N C R F K fa fb fd q t nid s tl)(ht:t≠70)(b g:Nat)(l:List Cel)(k:Nat)(hm:Mem w b g l k)(hb:¬ Z b)(hg:¬ Z g)(hk:k<9223372036854775808)(hok:Oks F s)(hlt:s.rd=0\/s.rd<s.en)(ad:Int)(had:adr N F fa nid s.rd=ad)
  (nN mM:Nat) (kK:ByteArray) (hc:cellAt l ad=((nN:Int),kK,(mM:Int))) (hN:nN<18446744073709551616) (hM:mM<9223372036854775808) (hs:tk F s nN kK mM=s') (r:Bool) (hr:(s'.rd==s'.en)=r) :
  Calls prog 124 #[.pointer (some ⟨q,0,none⟩),.pointer (some ⟨b,0,none⟩)] w λ e w'=>e=.returned (.bool r)/\Mem w' b g l (k+1)/\∃ Z',Con Z' w' T S N C R F K fa fb fd q t nid s' tl/\Kept (λ i=>Z i\/i=b\/i=g) w w'/\(∀ i,Z' i->Z i\/w.heap.size<=i):=by
 obtain⟨v,h1,h2,h3⟩:=h.ex;have hF:=hl.f2;have hrd:=hok.lt;have HC:=Hd hc;have HAD:=Hd had;have HM:=Hd hm;have HH:=Hd h;have HS:=Hd hs;have HR:=Hd hr;have HOK:=Hd hok;have HLT:=Hd hlt;have HB:=Hd h1;clear hc had hm h hs hr hok hlt h1 h2 h3;go_enter func124,ntmps124;go_wp2_with fail;refine(address_any T S N C R F K fa fb fd hl hd q t nid s.rd s.en s.lv v s.hi s.la s.rt tl _ HB.o (by omega) ad HAD.o).mono ?_;rintro e w1 ⟨rfl,hK1⟩;have HM1:=Hd (HM.o.kept hK1 id id);have HH1:=Hd (HH.o.kept hK1 kk2);have HK1:=Hd (hK1.mono (T:=λ i=>Z i\/i=b\/i=g) (λ_ h=>h.elim));clear hK1 HB;go_wp2_with fail;refine(load_any b g l k ad (nN:Int) (mM:Int) kK _ HM1.o hk HC.o).mono ?_;rintro e w2 ⟨rfl,hM2,hK2⟩;have HM2:=Hd hM2;have HH2:=Hd (HH1.o.kept hK2 (λ i hi e=>by rcases e with rfl|rfl;exact hb hi;exact hg hi));have HK2:=Hd (HK1.o.trans hK2 (T:=Own b g) (λ i _ e=>.inr e));clear hM2 hK2 HM1 HH1 HK1 HM HH;go_wp2_with fail;refine(take_any Z T S N C R F K fa fb fd hl hd q t nid s s' tl _ HH2.o ht HOK.o HLT.o nN mM kK hN hM HS.o r HR.o).mono ?_;rintro e w3 ⟨rfl,Z',hC3,hK3,hn3⟩;have HM3:=Hd (HM2.o.kept hK3 hb hg);have HK3:=Hd (HK2.o.trans hK3 (λ i _ e=>.inl e));have HN3:=Hd (show ∀ i,Z' i->Z i\/w.heap.size<=i from λ i hi=>by rcases hn3 i hi with h|h;exact .inl h;exact .inr (Nat.le_trans HK2.o.size h));have HC3:=Hd hC3;clear hC3 hK3 hn3 HM2 HK2 HH2;go_wp2;go_ret;exact⟨rfl,HM3.o,Z',HC3.o,HK3.o,HN3.o⟩

theorem restart_any(T S N C R:Int)(F:Nat)(K fa fb fd:Int)(hl:Lim T S N C R (F:Int))(hd:Reach3 fa fb fd)(q:Nat)(t:TypeId)(nid rd en lv:Nat)(v:Value)(hi:ByteArray)(la:Bool)(rt:Nat)(tl:List Value)(w:World)(h:Blk w q t (conv T S N C R F K fa fb fd nid rd en lv v hi la rt tl)) :
  Calls prog 171 #[.pointer (some ⟨q,0,none⟩)] w λ e w'=>e=.returned (.tuple #[])/\Blk w' q t (conv T S N C R F K fa fb fd nid 0 0 0 (.slice none 0 0) ⟨#[]⟩ false 0 tl)/\Kept (λ i=>i=q) w w':=by
 have HB:=Hd h;clear h;go_enter func171,ntmps171;go_wp2_with fail;refine qtail 10 (λ w'=>Kept (λ_=>False) w w'/\Blk w' q t (conv T S N C R F K fa fb fd nid rd en lv v hi la rt tl)) (by kernel_rfl) (by kernel_rfl) ⟨(Kept.refl _ _).drew,HB.o⟩ ?_;simp only[List.take_succ_cons,List.take_zero,List.drop_succ_cons,List.drop_zero];refine tkP 2 ?_;refine tkP 3 ?_;refine tkP 4 ?_;refine tkP 5 ?_;refine tkP 6 ?_ (by intro wq hSw;have y0:=(hSw.2).c11;exact qq1);refine tkP 7 ?_;refine tkP 8 ?_;refine tkP 9 ?_;refine tkP 10 ?_ (by intro wq hSw;have y0:=(hSw.2).c11;exact qq1);refine tkP 11 ?_;refine wpQuiet_nil ?_;intro wz hH;obtain⟨hK,hB⟩:=hH;have x0:=hB.k 0 rfl;have z0:=hB.frozen 0;have x1:=hB.k 1 rfl;have z1:=hB.frozen 1;have x2:=hB.k 2 rfl;have z2:=hB.frozen 2;have x3:=hB.k 3 rfl;have z3:=hB.frozen 3;have x4:=hB.k 4 rfl;have z4:=hB.frozen 4;have x5:=hB.k 5 rfl;have z5:=hB.frozen 5;have x6:=hB.k 6 rfl;have z6:=hB.frozen 6;have x7:=hB.k 7 rfl;have z7:=hB.frozen 7;have x8:=hB.k 8 rfl;have z8:=hB.frozen 8;have x9:=hB.k 9 rfl;have z9:=hB.frozen 9;have x10:=hB.k 10 rfl;have z10:=hB.frozen 10;have x11:=hB.k 11 rfl;have z11:=hB.frozen 11;have x12:=hB.k 12 rfl;have z12:=hB.frozen 12;have x13:=hB.k 13 rfl;have z13:=hB.frozen 13;have x14:=hB.k 14 rfl;have z14:=hB.frozen 14;have x15:=hB.k 15 rfl;have z15:=hB.frozen 15;have x16:=hB.k 16 rfl;have z16:=hB.frozen 16;have x17:=hB.k 17 rfl;have z17:=hB.frozen 17;have HB5:=Hd hB;have HK5:=Hd (hK.mono (T:=λ i=>i=q) (λ_ h=>h.elim));clear hB hK HB;go_wp2;go_end0;exact⟨rfl,((((((((((((((((((HB5.o.set 0 (int .i64 T)).set 1 (int .i64 S)).set 2 (int .i64 N)).set 3 (int .i64 C)).set 4 (int .i64 R)).set 5 (int .i64 F)).set 6 (int .u64 K)).set 7 (int .i64 fa)).set 8 (int .i64 fb)).set 9 (int .i64 fd)).set 10 (int .u64 nid)).set 11 (int .i64 0)).set 12 (int .i64 0)).set 13 (int .i64 0)).set 14 (.slice none 0 0)).set 15 (.string ⟨#[]⟩)).set 16 (.bool false)).set 17 (int .u64 0)),((((((((((((((((((HK5.o.setCell (a:=⟨q,0,none⟩) (λ_=>rfl) (int .i64 T)).setCell (a:=⟨q,1,none⟩) (λ_=>rfl) (int .i64 S)).setCell (a:=⟨q,2,none⟩) (λ_=>rfl) (int .i64 N)).setCell (a:=⟨q,3,none⟩) (λ_=>rfl) (int .i64 C)).setCell (a:=⟨q,4,none⟩) (λ_=>rfl) (int .i64 R)).setCell (a:=⟨q,5,none⟩) (λ_=>rfl) (int .i64 F)).setCell (a:=⟨q,6,none⟩) (λ_=>rfl) (int .u64 K)).setCell (a:=⟨q,7,none⟩) (λ_=>rfl) (int .i64 fa)).setCell (a:=⟨q,8,none⟩) (λ_=>rfl) (int .i64 fb)).setCell (a:=⟨q,9,none⟩) (λ_=>rfl) (int .i64 fd)).setCell (a:=⟨q,10,none⟩) (λ_=>rfl) (int .u64 nid)).setCell (a:=⟨q,11,none⟩) (λ_=>rfl) (int .i64 0)).setCell (a:=⟨q,12,none⟩) (λ_=>rfl) (int .i64 0)).setCell (a:=⟨q,13,none⟩) (λ_=>rfl) (int .i64 0)).setCell (a:=⟨q,14,none⟩) (λ_=>rfl) (.slice none 0 0)).setCell (a:=⟨q,15,none⟩) (λ_=>rfl) (.string ⟨#[]⟩)).setCell (a:=⟨q,16,none⟩) (λ_=>rfl) (.bool false)).setCell (a:=⟨q,17,none⟩) (λ_=>rfl) (int .u64 0))⟩
end

section

theorem copied_any(lv:Nat)(A:Option Addr)(c:Nat)(hi:ByteArray)(la:Bool)(rt:Nat)(xs:List Sl)(w:World)(n:Nat)(hn:xs.length=n)(h40:n<=1099511627776)(hR:Rs w A c xs) :
  Calls prog 127 #[.agg #[int .i64 lv,.slice A n c,.string hi,.bool la,int .u64 rt]] w λ e w'=>∃ A' c',e=.returned (.agg #[int .i64 lv,.slice A' n c',.string hi,.bool la,int .u64 rt])/\w'.ownsRow w.heap.size 70 2 (.slice A' n c') n (flat xs)/\Below w.heap.size w w':=by
 obtain⟨P0,S0,B0,Z0⟩:=box_two w [int .i64 lv,.slice A n c,.string hi,.bool la,int .u64 rt] [int .i64 0,.slice none 0 0,.string ⟨#[]⟩,.bool false,int .u64 0] 64 64;have R0:=hR.below B0 (Nat.le_refl _);go_enter func127,ntmps127;go_wp2_with (at_builtin;go_must (refine wpList_app rfl (.const (.slice none 0 0)) (.tmp 4) rfl (w.heap.size+2) _ 0 [] rfl (World.ownsRow_nil _ _ _ _) A n c xs rfl hn R0 (by omega) (Nat.le_of_eq Z0.symm) ?_));intro v1 w1 hown hB

 have P1:=P0.below hB (by omega);have S1:=S0.below hB (by omega);have HB:=Hd (B0.trans (hB.mono (by omega)));have HO:=Hd hown;have x0:=P1.k 0 rfl;have y0:=S1.k 0 rfl;have z0:=S1.frozen 0;have x1:=P1.k 1 rfl;have y1:=S1.k 1 rfl;have z1:=S1.frozen 1;have x2:=P1.k 2 rfl;have y2:=S1.k 2 rfl;have z2:=S1.frozen 2;have x3:=P1.k 3 rfl;have y3:=S1.k 3 rfl;have z3:=S1.frozen 3;have x4:=P1.k 4 rfl;have y4:=S1.k 4 rfl;have z4:=S1.frozen 4;have f1:=P1.frozen 1;obtain⟨A4,c4,rfl,hl4,hR4,hA4⟩:=Rs.own hown;clear hown hB P0 S0 B0 Z0 P1 S1 R0 hR hl4 hR4 hA4;go_wp2;refine bodyPost_ret (v:=.agg #[int .i64 lv,.slice A4 n c4,.string hi,.bool la,int .u64 rt]) (by simp[results,Tryz.results127,go_sem, *]) rfl ?_;exact⟨_,_,rfl,own_less (own_page HO.o (by omega) (by omega) _ _ _ _ _ _) (by omega),below_page HB.o (Nat.le_refl _) (Nat.le_succ _) _ _ _ _ _ _⟩
end
end Go.Proofs.YtlkgmnjceghpiaaGreat
