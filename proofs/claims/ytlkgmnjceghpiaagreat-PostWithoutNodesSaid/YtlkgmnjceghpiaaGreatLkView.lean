/-
 What the cells of a memory as plain data and the kit's group answer. Condition: the kit's small configurations.
-/
import Derived.Test.YtlkgmnjceghpiaaGreatLkPutK
namespace Go.Proofs.YtlkgmnjceghpiaaGreat
open Go.RowKit Go.Deep Plain
set_option linter.unusedSectionVars false
set_option linter.unusedVariables false
open _root_.Go.Proofs.Tryz
open Go.Value (int)
set_option maxHeartbeats 8000000
set_option maxRecDepth 100000
section
variable [Cf]

theorem vat_in(F:Nat)(h4:4<=F)(h6:F<=6)(g n:Nat)(l:List Cel)(hl:l.length=n)(i:Nat)(N M:Int)(K:ByteArray)(w:World)(hv:Blk w g 59 (flat3 l))(hi:i<n)(hc:l[i]? = some (N,K,M)) :
  Calls prog 48 #[.agg #[int .i64 1,int .i64 2,int .i64 Cf.N,int .i64 Cf.C,int .i64 Cf.R,int .i64 F,int .u64 Cf.K,.slice (some ⟨g,0,none⟩) n n],int .i64 i] w λ e w'=>e=.returned (.agg #[int .u64 N,.string K,int .u64 M])/\Kept (λ_=>False) w w':=by
 obtain⟨f1,f2,f3⟩:=flat3_at l i _ hc;have d1:=hv.cell f1;have d2:=hv.cell f2;have d3:=hv.cell f3;have hg:=hv.lt;have p1:¬ ((i:Int)<0):=by omega
 have p2:(i:Int)<(n:Int):=by omega
 have p3:decide ((i:Int)<0)=false:=decide_eq_false p1;have p4:decide ((i:Int)<(n:Int))=true:=decide_eq_true p2;have HL:=Hd hl;clear f1 f2 f3 hc hl;go_enter func48,ntmps48;go_wp2;refine bodyPost_ret (v:=.agg #[int .u64 N,.string K,int .u64 M]) (by simp[results,Tryz.results48,go_sem]) rfl ⟨rfl,?_⟩;have hK:=((Kept.refl (λ_=>False) w).alloc (.cells #[int .i64 1,int .i64 2,int .i64 Cf.N,int .i64 Cf.C,int .i64 Cf.R,int .i64 F,int .u64 Cf.K,.slice (some ⟨g,0,none⟩) n n] 36)).alloc (.cells #[int .u64 0,.string ⟨#[]⟩,int .u64 0] 59)
 first
  | exact hK
  | exact((hK.setNew (b:=w.heap.size+1) (by omega) 0 _).setNew (b:=w.heap.size+1) (by omega) 1 _).setNew (b:=w.heap.size+1) (by omega) 2 _
  | exact((Kept.refl _ _).alloc _).alloc _

theorem vat_out(F:Nat)(h4:4<=F)(h6:F<=6)(g n:Nat)(l:List Cel)(hl:l.length=n)(i:Int)(w:World)(hv:Blk w g 59 (flat3 l))(hi:i<0\/(n:Int)<=i) :
  Calls prog 48 #[.agg #[int .i64 1,int .i64 2,int .i64 Cf.N,int .i64 Cf.C,int .i64 Cf.R,int .i64 F,int .u64 Cf.K,.slice (some ⟨g,0,none⟩) n n],int .i64 i] w λ e w'=>e=.returned (.agg #[int .u64 0,.string ⟨#[]⟩,int .u64 0])/\Kept (λ_=>False) w w':=by
 have hg:=hv.lt;have HL:=Hd hl;clear hl;rcases (by omega:i<0\/(¬ i<0/\(n:Int)<=i)) with hi|hi
 ·have p3:decide (i<0)=true:=decide_eq_true (by omega)
  go_enter func48,ntmps48;go_wp2;refine bodyPost_ret (v:=.agg #[int .u64 0,.string ⟨#[]⟩,int .u64 0]) (by simp[results,Tryz.results48,go_sem]) rfl ⟨rfl,?_⟩;exact((Kept.refl _ _).alloc _).alloc _
 ·have p3:decide (i<0)=false:=decide_eq_false (by omega)
  have p2:¬ i<(n:Int):=by omega
  have p1:¬ i<0:=by omega
  have p4:decide (i<(n:Int))=false:=decide_eq_false (by omega);go_enter func48,ntmps48;go_wp2;refine bodyPost_ret (v:=.agg #[int .u64 0,.string ⟨#[]⟩,int .u64 0]) (by simp[results,Tryz.results48,go_sem]) rfl ⟨rfl,?_⟩;exact((Kept.refl _ _).alloc _).alloc _

theorem vat_any(F:Nat)(h4:4<=F)(h6:F<=6)(g n:Nat)(l:List Cel)(hl:l.length=n)(i:Int)(N M:Int)(K:ByteArray)(w:World)(hv:Blk w g 59 (flat3 l))(hc:cellAt l i=(N,K,M)) :
  Calls prog 48 #[.agg #[int .i64 1,int .i64 2,int .i64 Cf.N,int .i64 Cf.C,int .i64 Cf.R,int .i64 F,int .u64 Cf.K,.slice (some ⟨g,0,none⟩) n n],int .i64 i] w λ e w'=>e=.returned (.agg #[int .u64 N,.string K,int .u64 M])/\Kept (λ_=>False) w w':=by
 by_cases hi:0<=i/\i<n
 ·obtain⟨j,rfl⟩:∃ j:Nat,i=j:=⟨i.toNat,by omega⟩
  rw[cellAt_in l j (by omega)] at hc;exact vat_in F h4 h6 g n l hl j N M K w hv (by omega) (by rw[List.getElem?_eq_getElem (by omega),hc])
 ·rw[cellAt_out l i (by omega)] at hc
  obtain⟨rfl,rfl,rfl⟩:(0:Int)=N/\(⟨#[]⟩:ByteArray)=K/\(0:Int)=M:=by unfold cel0 at hc;simpa using hc
  exact vat_out F h4 h6 g n l hl i w hv (by omega)
theorem vpart_any(F:Nat)(h4:4<=F)(h6:F<=6)(g n:Nat)(l:List Cel)(hl:l.length=n)(nid part:Nat)(hp:part<F+4)(a:Int)(ha:nodeAt Cf.N (F:Int) 10 (nid:Int) (part:Int)=a)(N M:Int)(K:ByteArray)(w:World)(hv:Blk w g 59 (flat3 l))(hc:cellAt l a=(N,K,M)) :
  Calls prog 70 #[.agg #[int .i64 1,int .i64 2,int .i64 Cf.N,int .i64 Cf.C,int .i64 Cf.R,int .i64 F,int .u64 Cf.K,.slice (some ⟨g,0,none⟩) n n],int .u64 nid,int .i64 part] w λ e w'=>e=.returned (.agg #[int .u64 N,.string K,int .u64 M])/\Kept (λ_=>False) w w':=by
 have HV0:=Hd hv;have HC:=Hd hc;have hrl:nodeAt Cf.N (F:Int) 10 (nid:Int) (part:Int)=a:=ha;clear hv hc;go_enter func70,ntmps70;go_wp2_with fail;have hal:=((Kept.refl (λ_=>False) w).alloc (.cells #[int .i64 1,int .i64 2,int .i64 Cf.N,int .i64 Cf.C,int .i64 Cf.R,int .i64 F,int .u64 Cf.K,.slice (some ⟨g,0,none⟩) n n] 36)).alloc (.cells #[int .u64 0,.string ⟨#[]⟩,int .u64 0] 59);have HB:=Hd ((Blk.new w [int .i64 1,int .i64 2,int .i64 Cf.N,int .i64 Cf.C,int .i64 Cf.R,int .i64 F,int .u64 Cf.K,.slice (some ⟨g,0,none⟩) n n] 36).alloc (.cells #[int .u64 0,.string ⟨#[]⟩,int .u64 0] 59));have hNN:=Blk.new (w.alloc (.cells #[int .i64 1,int .i64 2,int .i64 Cf.N,int .i64 Cf.C,int .i64 Cf.R,int .i64 F,int .u64 Cf.K,.slice (some ⟨g,0,none⟩) n n] 36)) [int .u64 0,.string ⟨#[]⟩,int .u64 0] 59;have hsz1:(w.alloc (.cells #[int .i64 1,int .i64 2,int .i64 Cf.N,int .i64 Cf.C,int .i64 Cf.R,int .i64 F,int .u64 Cf.K,.slice (some ⟨g,0,none⟩) n n] 36)).heap.size=w.heap.size+1:=nblk_alloc _ _;rw[hsz1] at hNN;have HN:=Hd hNN;have HV:=Hd (hal.blk HV0.o id);have HK:=Hd hal;clear hal hNN hsz1;generalize (w.alloc (.cells #[int .i64 1,int .i64 2,int .i64 Cf.N,int .i64 Cf.C,int .i64 Cf.R,int .i64 F,int .u64 Cf.K,.slice (some ⟨g,0,none⟩) n n] 36)).alloc (.cells #[int .u64 0,.string ⟨#[]⟩,int .u64 0] 59)=W at *;have HW:=Hd (Kept.refl (λ_=>False) W);generalize hr1:w.heap.size+1=r1 at *;generalize hr0:w.heap.size=r0 at *;have HR:=Hd (show r1=r0+1 by omega);have HR0:=Hd hr0.symm;clear hr0 hr1;refine qtail 7 (λ w'=>Kept (λ_=>False) W w') (by kernel_rfl) (by kernel_rfl) HW.o.drew ?_;simp only[List.take_succ_cons,List.take_zero,List.drop_succ_cons,List.drop_zero];refine tkP 7 ?_ (by intro wq hSw;have y0:=(hSw.blk HB.o id).c8;exact qq1);refine tkP 8 ?_;refine tkP 9 ?_ (by intro wq hSw;have y0:=(hSw.blk HB.o id).c8;exact qq1);refine tkP 10 ?_;refine tkP 11 ?_;refine qcall (o:=⟨some 12,_,_,_,_,_⟩) (v:=int .i64 a) (by rfl) (λ wq hSw=>?_) (λ wq hSw=>Calls.mono (ref_to F nid part h4 h6 hp a hrl _) ?_) ?_
 ·(go_simp;try with_reducible rfl)
 ·rintro e w9 ⟨rfl,hk⟩;exact⟨rfl,hSw.trans hk kk2⟩
 try simp only[aP,aA,aZ,aS]
 refine qcall (o:=⟨some 13,_,_,_,_,_⟩) (v:=.agg #[int .u64 N,.string K,int .u64 M]) (by rfl) (λ wq hSw=>?_) (λ wq hSw=>Calls.mono (vat_any F h4 h6 g n l hl a N M K _ (hSw.blk HV.o id) HC.o) ?_) ?_
 ·(go_simp;try with_reducible rfl)
 ·rintro e w9 ⟨rfl,hk⟩;exact⟨rfl,hSw.trans hk kk2⟩
 try simp only[aP,aA,aZ,aS]
 refine wpQuiet_nil ?_;intro wz hH;have hn9:=hH.blk HN.o id;obtain⟨x0,x1,x2⟩:=hn9.c3;have z0:=hn9.frozen 0;have z1:=hn9.frozen 1;have z2:=hn9.frozen 2;have HK5:=Hd ((((HK.o.trans hH kk2).setNew (b:=r1) (by rw[HR.o,HR0.o];omega) 0 (int .u64 N)).setNew (b:=r1) (by rw[HR.o,HR0.o];omega) 1 (.string K)).setNew (b:=r1) (by rw[HR.o,HR0.o];omega) 2 (int .u64 M));have HN2:=Hd (((hn9.set 0 (int .u64 N)).set 1 (.string K)).set 2 (int .u64 M));clear hn9 hH;go_wp2;obtain⟨q0,q1,q2⟩:=HN2.o.c3;refine bodyPost_ret (v:=.agg #[int .u64 N,.string K,int .u64 M]) ?_ rfl ⟨rfl,HK5.o⟩;simp[results,Tryz.results70,go_sem,q0,q1,q2]

theorem vnode_in(F:Nat)(h4:4<=F)(h6:F<=6)(g n:Nat)(l:List Cel)(hl:l.length=n)(nid tot:Nat)(M4:Int)(K4:ByteArray)(h1:1<=nid)(h2:nid<=Cf.N)(h3:nid<=tot)(w:World)(hv:Blk w g 59 (flat3 l))(hc:cellAt l 4=((tot:Int),K4,M4)) :
  Calls prog 47 #[.agg #[int .i64 1,int .i64 2,int .i64 Cf.N,int .i64 Cf.C,int .i64 Cf.R,int .i64 F,int .u64 Cf.K,.slice (some ⟨g,0,none⟩) n n],int .u64 nid] w λ e w'=>e=.returned (.bool true)/\Kept (λ_=>False) w w':=by
 have HV0:=Hd hv;have HC:=Hd hc;have hfd:=field0 (tot:Int) M4 K4;have pW:IntKind.u64.wrap (Cf.N:Int)=(Cf.N:Int):=by have:=Cf.n2;rw[IntKind.wrap_u64];omega
 have p1:(1:Int)<=(nid:Int):=by omega
 have p2:(nid:Int)<=Cf.N:=by omega
 have p3:(nid:Int)<=(tot:Int):=by omega
 have p4:¬ (nid:Int)<1:=by omega
 have p5:¬ ((Cf.N:Nat):Int)<(nid:Int):=by omega
 have p6:¬ (tot:Int)<(nid:Int):=by omega
 clear hv hc;have x0:=(Blk.new w [int .i64 1,int .i64 2,int .i64 Cf.N,int .i64 Cf.C,int .i64 Cf.R,int .i64 F,int .u64 Cf.K,.slice (some ⟨g,0,none⟩) n n] 36).k 0 rfl;have x1:=(Blk.new w [int .i64 1,int .i64 2,int .i64 Cf.N,int .i64 Cf.C,int .i64 Cf.R,int .i64 F,int .u64 Cf.K,.slice (some ⟨g,0,none⟩) n n] 36).k 1 rfl;have x2:=(Blk.new w [int .i64 1,int .i64 2,int .i64 Cf.N,int .i64 Cf.C,int .i64 Cf.R,int .i64 F,int .u64 Cf.K,.slice (some ⟨g,0,none⟩) n n] 36).k 2 rfl;have x3:=(Blk.new w [int .i64 1,int .i64 2,int .i64 Cf.N,int .i64 Cf.C,int .i64 Cf.R,int .i64 F,int .u64 Cf.K,.slice (some ⟨g,0,none⟩) n n] 36).k 3 rfl;have x4:=(Blk.new w [int .i64 1,int .i64 2,int .i64 Cf.N,int .i64 Cf.C,int .i64 Cf.R,int .i64 F,int .u64 Cf.K,.slice (some ⟨g,0,none⟩) n n] 36).k 4 rfl;have x5:=(Blk.new w [int .i64 1,int .i64 2,int .i64 Cf.N,int .i64 Cf.C,int .i64 Cf.R,int .i64 F,int .u64 Cf.K,.slice (some ⟨g,0,none⟩) n n] 36).k 5 rfl;have x6:=(Blk.new w [int .i64 1,int .i64 2,int .i64 Cf.N,int .i64 Cf.C,int .i64 Cf.R,int .i64 F,int .u64 Cf.K,.slice (some ⟨g,0,none⟩) n n] 36).k 6 rfl;have x7:=(Blk.new w [int .i64 1,int .i64 2,int .i64 Cf.N,int .i64 Cf.C,int .i64 Cf.R,int .i64 F,int .u64 Cf.K,.slice (some ⟨g,0,none⟩) n n] 36).k 7 rfl;go_enter func47,ntmps47;go_wp2_with fail;refine(vat_any F h4 h6 g n l hl 4 (tot:Int) M4 K4 _ (HV0.o.alloc _) HC.o).mono ?_;rintro e w1 ⟨rfl,hK1⟩;have HK1:=Hd (((Kept.refl (λ_=>False) w).alloc (.cells #[int .i64 1,int .i64 2,int .i64 Cf.N,int .i64 Cf.C,int .i64 Cf.R,int .i64 F,int .u64 Cf.K,.slice (some ⟨g,0,none⟩) n n] 36)).trans hK1 kk2);clear hK1;go_wp2;go_ret;exact⟨rfl,HK1.o⟩

theorem vnode_zero(F:Nat)(h4:4<=F)(h6:F<=6)(g n:Nat)(l:List Cel)(hl:l.length=n)(nid tot:Nat)(M4:Int)(K4:ByteArray)(h1:nid=0)(w:World)(hv:Blk w g 59 (flat3 l))(hc:cellAt l 4=((tot:Int),K4,M4)) :
  Calls prog 47 #[.agg #[int .i64 1,int .i64 2,int .i64 Cf.N,int .i64 Cf.C,int .i64 Cf.R,int .i64 F,int .u64 Cf.K,.slice (some ⟨g,0,none⟩) n n],int .u64 nid] w λ e w'=>e=.returned (.bool false)/\Kept (λ_=>False) w w':=by
 have HV0:=Hd hv;have HC:=Hd hc;have hfd:=field0 (tot:Int) M4 K4;have pW:IntKind.u64.wrap (Cf.N:Int)=(Cf.N:Int):=by have:=Cf.n2;rw[IntKind.wrap_u64];omega
 have p1:¬ (1:Int)<=(nid:Int):=by omega
 have p4:(nid:Int)<1:=by omega
 clear h1;clear hv hc;have x0:=(Blk.new w [int .i64 1,int .i64 2,int .i64 Cf.N,int .i64 Cf.C,int .i64 Cf.R,int .i64 F,int .u64 Cf.K,.slice (some ⟨g,0,none⟩) n n] 36).k 0 rfl;have x1:=(Blk.new w [int .i64 1,int .i64 2,int .i64 Cf.N,int .i64 Cf.C,int .i64 Cf.R,int .i64 F,int .u64 Cf.K,.slice (some ⟨g,0,none⟩) n n] 36).k 1 rfl;have x2:=(Blk.new w [int .i64 1,int .i64 2,int .i64 Cf.N,int .i64 Cf.C,int .i64 Cf.R,int .i64 F,int .u64 Cf.K,.slice (some ⟨g,0,none⟩) n n] 36).k 2 rfl;have x3:=(Blk.new w [int .i64 1,int .i64 2,int .i64 Cf.N,int .i64 Cf.C,int .i64 Cf.R,int .i64 F,int .u64 Cf.K,.slice (some ⟨g,0,none⟩) n n] 36).k 3 rfl;have x4:=(Blk.new w [int .i64 1,int .i64 2,int .i64 Cf.N,int .i64 Cf.C,int .i64 Cf.R,int .i64 F,int .u64 Cf.K,.slice (some ⟨g,0,none⟩) n n] 36).k 4 rfl;have x5:=(Blk.new w [int .i64 1,int .i64 2,int .i64 Cf.N,int .i64 Cf.C,int .i64 Cf.R,int .i64 F,int .u64 Cf.K,.slice (some ⟨g,0,none⟩) n n] 36).k 5 rfl;have x6:=(Blk.new w [int .i64 1,int .i64 2,int .i64 Cf.N,int .i64 Cf.C,int .i64 Cf.R,int .i64 F,int .u64 Cf.K,.slice (some ⟨g,0,none⟩) n n] 36).k 6 rfl;have x7:=(Blk.new w [int .i64 1,int .i64 2,int .i64 Cf.N,int .i64 Cf.C,int .i64 Cf.R,int .i64 F,int .u64 Cf.K,.slice (some ⟨g,0,none⟩) n n] 36).k 7 rfl;go_enter func47,ntmps47;go_wp2_with fail;go_wp2;go_ret;exact⟨rfl,(Kept.refl _ _).alloc _⟩
end

section

theorem infoInt:(prog.info? 3).map (λ i=>(i.zero,i.size,i.bytes))=some (some (int .i64 0),1,8):=by kernel_rfl
def ints(ps:List Nat):List Value:=ps.map λ(p:Nat)=>Value.int .i64 p
theorem ints_length(ps:List Nat):(ints ps).length=ps.length:=by unfold ints;simp
theorem ints_at{ps:List Nat}{i p:Nat}(h:ps[i]? = some p):(ints ps)[i]? = some (int .i64 p):=by unfold ints;rw[List.getElem?_map,h];rfl
structure Grp(F least n m:Nat)(ps:List Nat):Prop where
 sum:ps.sum+m=n
 le:∀ i p:Nat,ps[i]? = some p->1<=p/\p<=F
 ge:∀ i p:Nat,ps[i]? = some p->least<=p\/(m=0/\i+1=ps.length)
theorem Grp.step{F least n m k:Nat}{ps:List Nat}(h:Grp F least n m ps)(hm:0<m)(hk:least<=k)(hk1:1<=k)(hkF:k<=F):Grp F least n (m-min k m) (ps++[min k m]):=by
 refine⟨?_,λ i p hp=>?_,λ i p hp=>?_⟩
 ·have:=h.sum;rw[List.sum_append];simp;omega
 ·rcases Nat.lt_or_ge i ps.length with h1|h1
  ·rw[List.getElem?_append_left h1] at hp;exact h.le i p hp
  ·rw[List.getElem?_append_right h1] at hp
   have h2:=(List.getElem?_eq_some_iff.1 hp).1;simp at h2;rw[show i-ps.length=0 by omega] at hp;have hp':min k m=p:=by simpa using hp
   omega
 ·rcases Nat.lt_or_ge i ps.length with h1|h1
  ·rw[List.getElem?_append_left h1] at hp
   rcases h.ge i p hp with h2|h2
   ·exact .inl h2
   ·omega
  ·rw[List.getElem?_append_right h1] at hp
   have h2:=(List.getElem?_eq_some_iff.1 hp).1;simp at h2;rw[show i-ps.length=0 by omega] at hp;have hp':min k m=p:=by simpa using hp
   rcases (by omega:least<=p\/m<least) with h3|h3
   ·exact .inl h3
   ·exact .inr ⟨by omega,by rw[List.length_append];simp;omega⟩
theorem Grp.len{F least n m:Nat}{ps:List Nat}(h:Grp F least n m ps):ps.length<=n:=by
 have h1:∀ qs:List Nat,(∀ p∈qs,1<=p)->qs.length<=qs.sum:=by
  intro qs
  induction qs with
  | nil=>intro _;exact Nat.le_refl _
  | cons q r ih =>
   intro hq;have:=ih λ p hp=>hq p (List.mem_cons_of_mem _ hp);have:=hq q (List.mem_cons_self ..);rw[List.length_cons,List.sum_cons];omega
 have:=h1 ps λ p hp=>by obtain⟨i,hi⟩:=List.mem_iff_getElem?.1 hp;exact(h.le i p hi).1
 have:=h.sum;omega
theorem group_any(F least n:Nat)(h4:4<=F)(h6:F<=6)(hl1:1<=least)(hl2:least<=2)(hn:n<=1000000)(sh:Int)(hs:0<=sh)(w:World) :
  Calls prog 67 #[int .i64 n,int .i64 least,int .i64 F,int .u64 sh] w λ e w'=>∃(v:Value) (ps:List Nat),e=.returned v/\Grp F least n 0 ps/\w'.ownsRow w.heap.size 3 1 v ps.length (ints ps)/\Below w.heap.size w w':=by
 obtain⟨i0,hi0,hz0,hz1,hz2⟩:=info_parts infoInt;have HI0:=Hd hi0;have HI1:=Hd hz0;have HI2:=Hd hz1;have HI3:=Hd hz2;clear hi0 hz0 hz1 hz2;go_enter func67,ntmps67;go_wp2;go_loopw [0,3,9] (λ nv sv v wr=>∃(m:Nat) (s:Int) (ps:List Nat),m<=n/\0<=s/\nv=int .i64 m/\sv=int .u64 s/\Grp F least n m ps/\wr.ownsRow w.heap.size 3 1 v ps.length (ints ps)/\Below w.heap.size w wr) (λ nv _ _ _=>(intOf nv).toNat)
 case atStart=>exact⟨n,sh,[],Nat.le_refl _,hs,rfl,rfl,⟨by simp,λ i p h=>by simp at h,λ i p h=>by simp at h⟩,by exact World.ownsRow_nil _ _ _ _,Below.refl _ _⟩
 case round =>
  obtain⟨m,s,ps,hm,hs0,rfl,rfl,hG,hO,hB⟩:=hrel;have HG:=Hd hG;have HO:=Hd hO;have HB:=Hd hB;have hlp:=hG.len;have hzr:=hB.size;clear hG hO hB
  by_cases hm0:0<m
  ·obtain⟨d,hd⟩:∃ d:Nat,F+1=least+d:=⟨F+1-least,by omega⟩
   have hd0:(F:Int)-(least:Int)+1=(d:Int):=by omega
   have hdp:0<(d:Int):=by omega
   have hd7:d<=6:=by omega
   obtain⟨r,hr⟩:∃ r:Nat,s%(d:Int)=(r:Int):=⟨(s%(d:Int)).toNat,by have:=Int.emod_nonneg s (b:=(d:Int)) (by omega);omega⟩;have hrl:r<d:=by have:=Int.emod_lt_of_pos s (b:=(d:Int)) (by omega);omega
   have hrt:s.tmod (d:Int)=(r:Int):=by rw[Int.tmod_eq_emod_of_nonneg hs0];exact hr
   clear hd hrt
   by_cases hmin:least+r<=m
   ·obtain⟨k,hk⟩:∃ k:Nat,least+r=k:=⟨_,rfl⟩
    have hkV:(least:Int)+(r:Int)=(k:Int):=by omega
    have hkk:min (least+r) m=k:=by omega
    have hkI:(k:Int)<=(m:Int):=by omega
    have HGS:=Hd (by have:=HG.o.step hm0 (k:=least+r) (by omega) (by omega) (by omega);rw[hkk] at this;exact this);have hkm:k<=m:=by omega
    clear hkk hk;have hown:=HO.o;go_wp2_with (at_builtin;go_must (refine wpList_append_own _ rfl (.tmp 26) (.tmp 28) 111 rfl w.heap.size 3 i0 _ 1 8 Tryz.underlying111 HI0.o HI1.o HI2.o HI3.o rfl (by decide) _ _ _ rfl (hown.alloc _) ⟨wr.heap.size,0,none⟩ 1 1 [int .i64 k] rfl rfl ?a1 ?b1 ?c1 ?d1 ?e1 ?_))
    try case a1 =>
     intro j u hu
     match j,hu with
     | 0,hu=>simp at hu;subst hu;simp[Addr.add]
     | j+1,hu=>simp at hu
    case b1=>first|exact rfl|(intro u hu;simp at hu;subst hu;rfl)
    case c1=>unfold maxLen;omega
    case d1=>omega
    case e1=>first|omega|(simp;omega)
    intro v1 w1 hown1 hgr1 _;have hal:=(Below.refl wr.heap.size wr).alloc (Nat.le_refl _) (.cells #[int .i64 k] 3);have hB1:=Below.grown (hal.mono hzr) hgr1 (by rw[nblk_alloc];omega) λ q hq=>(hown.lt q hq).1;have HB1:=Hd (HB.o.trans hB1);have HO1:=Hd (show w1.ownsRow w.heap.size 3 1 v1 (ps++[k]).length (ints (ps++[k])) from by
     have e:ints (ps++[k])=ints ps++[int .i64 k]:=by unfold ints;rw[List.map_append];rfl
     rw[e,List.length_append];exact hown1)
    clear hown1 hgr1 hal hB1 hown HO HB HG;go_wp2;go_roundw
    case rel=>exact⟨m-k,_,ps++[k],by omega,by rw[IntKind.wrap_u64];omega,by go_num,rfl,HGS.o,HO1.o,HB1.o⟩
    case measure=>simp[intOf];omega
   ·have hkk:min (least+r) m=m:=by omega
    have hkI:¬ (least:Int)+(r:Int)<=(m:Int):=by omega
    have HGS:=Hd (by have:=HG.o.step hm0 (k:=least+r) (by omega) (by omega) (by omega);rw[hkk] at this;exact this);have hkm:m<=m:=by omega
    clear hkk;have hown:=HO.o;go_wp2_with (at_builtin;go_must (refine wpList_append_own _ rfl (.tmp 26) (.tmp 28) 111 rfl w.heap.size 3 i0 _ 1 8 Tryz.underlying111 HI0.o HI1.o HI2.o HI3.o rfl (by decide) _ _ _ rfl (hown.alloc _) ⟨wr.heap.size,0,none⟩ 1 1 [int .i64 m] rfl rfl ?a1 ?b1 ?c1 ?d1 ?e1 ?_))
    try case a1 =>
     intro j u hu
     match j,hu with
     | 0,hu=>simp at hu;subst hu;simp[Addr.add]
     | j+1,hu=>simp at hu
    case b1=>first|exact rfl|(intro u hu;simp at hu;subst hu;rfl)
    case c1=>unfold maxLen;omega
    case d1=>omega
    case e1=>first|omega|(simp;omega)
    intro v1 w1 hown1 hgr1 _;have hal:=(Below.refl wr.heap.size wr).alloc (Nat.le_refl _) (.cells #[int .i64 m] 3);have hB1:=Below.grown (hal.mono hzr) hgr1 (by rw[nblk_alloc];omega) λ q hq=>(hown.lt q hq).1;have HB1:=Hd (HB.o.trans hB1);have HO1:=Hd (show w1.ownsRow w.heap.size 3 1 v1 (ps++[m]).length (ints (ps++[m])) from by
     have e:ints (ps++[m])=ints ps++[int .i64 m]:=by unfold ints;rw[List.map_append];rfl
     rw[e,List.length_append];exact hown1)
    clear hown1 hgr1 hal hB1 hown HO HB HG;go_wp2;go_roundw
    case rel=>exact⟨m-m,_,ps++[m],by omega,by rw[IntKind.wrap_u64];omega,by go_num,rfl,HGS.o,HO1.o,HB1.o⟩
    case measure=>simp[intOf];omega
  ·obtain rfl:m=0:=by omega
   go_wp2;go_ret;exact⟨_,ps,rfl,HG.o,HO.o,HB.o⟩

theorem group_to(F least n:Nat)(lI:Int)(hlI:lI=(least:Int))(h4:4<=F)(h6:F<=6)(hl1:1<=least)(hl2:least<=2)(hn:n<=1000000)(sh:Int)(hs:0<=sh)(w:World) :
  Calls prog 67 #[int .i64 n,int .i64 lI,int .i64 F,int .u64 sh] w λ e w'=>∃(v:Value) (ps:List Nat),e=.returned v/\Grp F least n 0 ps/\w'.ownsRow w.heap.size 3 1 v ps.length (ints ps)/\Below w.heap.size w w':=by
 subst hlI;exact group_any F least n h4 h6 hl1 hl2 hn sh hs w
end
end Go.Proofs.YtlkgmnjceghpiaaGreat
