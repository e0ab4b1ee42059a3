/-
 What the functions of package memory and the words of package latch answer and write. Condition: at most 2^20 cells,fewer than 2^63 accesses,words below 2^64.
-/
import Derived.Test.YtlkgmnjceghpiaaGreatRows
import Derived.Test.YtlkgmnjceghpiaaGreatLkPlain
import Derived.WalkSpells
import Derived.WalkLawsBesides
import Derived.Lib.Strings
namespace Go.Proofs.YtlkgmnjceghpiaaGreat
set_option linter.unusedVariables false
open _root_.Go.Proofs.Tryz
open Go.Value (int)
set_option maxHeartbeats 8000000
set_option maxRecDepth 100000
section
open Go.RowKit Go.Deep

structure Mem(w:World)(b g:Nat)(l:List Cel)(k:Nat):Prop where
 obj:Blk w b 93 [.slice (some ⟨g,0,none⟩) l.length l.length,int .u64 k]
 row:Blk w g 59 (flat3 l)
 ne:b≠g

theorem Mem.kept{S:Nat->Prop}{w w':World}{b g:Nat}{l:List Cel}{k:Nat}(h:Mem w b g l k)(hk:Kept S w w')(hb:¬ S b)(hg:¬ S g):Mem w' b g l k :=
 ⟨hk.blk h.obj hb,hk.blk h.row hg,h.ne⟩

theorem Mem.c0{w:World}{b g:Nat}{l:List Cel}{k:Nat}(h:Mem w b g l k):w.cell? ⟨b,0,none⟩=some (.slice (some ⟨g,0,none⟩) l.length l.length):=h.obj.cell rfl

theorem Mem.c1{w:World}{b g:Nat}{l:List Cel}{k:Nat}(h:Mem w b g l k):w.cell? ⟨b,1,none⟩=some (int .u64 k):=h.obj.cell rfl

theorem has_any(b g:Nat)(l:List Cel)(k:Nat)(i:Int)(w:World)(h:Mem w b g l k) :
  Calls prog 53 #[.pointer (some ⟨b,0,none⟩),int .i64 i] w λ e w'=>e=.returned (.bool (isIn l i))/\w=w':=by
 have c0:=h.c0
 by_cases h0:0<=i
 ·go_enter func53,ntmps53
  go_wp2;go_ret;exact⟨by unfold isIn;simp[h0],rfl⟩
 ·have h1:decide (0<=i)=false:=by simpa using h0
  go_enter func53,ntmps53;go_wp2;go_ret;exact⟨by unfold isIn;simp;omega,rfl⟩

theorem cells_any(b g:Nat)(l:List Cel)(k:Nat)(w:World)(h:Mem w b g l k) :
  Calls prog 30 #[.pointer (some ⟨b,0,none⟩)] w λ e w'=>e=.returned (int .i64 l.length)/\w=w':=by
 have c0:=h.c0;go_enter func30,ntmps30;go_wp2;go_ret;exact⟨rfl,rfl⟩

theorem peek_in(b g:Nat)(l:List Cel)(k i:Nat)(N M:Int)(K:ByteArray)(w:World)(h:Mem w b g l k)(hi:i<l.length)(hc:l[i]? = some (N,K,M)) :
  Calls prog 33 #[.pointer (some ⟨b,0,none⟩),int .i64 i] w λ e w'=>e=.returned (.agg #[int .u64 N,.string K,int .u64 M])/\Kept (λ_=>False) w w':=by
 have c0:=h.c0;obtain⟨f1,f2,f3⟩:=flat3_at l i _ hc;have d1:=h.row.cell f1;have d2:=h.row.cell f2;have d3:=h.row.cell f3;have hb:=h.obj.lt;have hg:=h.row.lt;have hin:isIn l i=true:=by unfold isIn;simp[hi]
 clear f1 f2 f3 hc;go_enter func33,ntmps33;go_wp2_with (go_at_call 53;refine(has_any _ _ l k _ _ ⟨h.obj.alloc _,h.row.alloc _,h.ne⟩).mono ?_;rintro e w' ⟨rfl,rfl⟩);refine bodyPost_ret (v:=.agg #[int .u64 N,.string K,int .u64 M]) (by simp[results,Tryz.results33,go_sem]) rfl ⟨rfl,?_⟩;exact(Kept.refl _ _).alloc _

theorem peek_out(b g:Nat)(l:List Cel)(k:Nat)(i:Int)(w:World)(h:Mem w b g l k)(hi:isIn l i=false) :
  Calls prog 33 #[.pointer (some ⟨b,0,none⟩),int .i64 i] w λ e w'=>e=.returned (.agg #[int .u64 0,.string ⟨#[]⟩,int .u64 0])/\Kept (λ_=>False) w w':=by
 have c0:=h.c0;go_enter func33,ntmps33;go_wp2_with (go_at_call 53;refine(has_any _ _ l k _ _ ⟨h.obj.alloc _,h.row.alloc _,h.ne⟩).mono ?_;rintro e w' ⟨rfl,rfl⟩);refine bodyPost_ret (v:=.agg #[int .u64 0,.string ⟨#[]⟩,int .u64 0]) (by simp[results,Tryz.results33,go_sem]) rfl ⟨rfl,?_⟩;exact(Kept.refl _ _).alloc _

theorem peek_any(b g:Nat)(l:List Cel)(k:Nat)(i:Int)(N M:Int)(K:ByteArray)(w:World)(h:Mem w b g l k)(hc:cellAt l i=(N,K,M)) :
  Calls prog 33 #[.pointer (some ⟨b,0,none⟩),int .i64 i] w λ e w'=>e=.returned (.agg #[int .u64 N,.string K,int .u64 M])/\Kept (λ_=>False) w w':=by
 by_cases hi:0<=i/\i<l.length
 ·obtain⟨j,rfl⟩:∃ j:Nat,i=j:=⟨i.toNat,by omega⟩
  have hj:j<l.length:=by omega
  rw[cellAt_in l j hj] at hc;exact peek_in b g l k j N M K w h hj (by rw[List.getElem?_eq_getElem hj,hc])
 ·rw[cellAt_out l i (by omega)] at hc
  obtain⟨rfl,rfl,rfl⟩:(0:Int)=N/\(⟨#[]⟩:ByteArray)=K/\(0:Int)=M:=by unfold cel0 at hc;simpa using hc
  exact peek_out b g l k i w h (by unfold isIn;simpa using hi)

theorem Mem.alloc{w:World}{b g:Nat}{l:List Cel}{k:Nat}(h:Mem w b g l k)(o:Obj):Mem (w.alloc o) b g l k:=⟨h.obj.alloc _,h.row.alloc _,h.ne⟩

theorem Mem.drew{w:World}{b g:Nat}{l:List Cel}{k:Nat}(h:Mem w b g l k):Mem w.drew b g l k:=⟨h.obj,h.row,h.ne⟩

theorem Mem.bump{w:World}{b g:Nat}{l:List Cel}{k:Nat}(h:Mem w b g l k):Mem (w.setCell ⟨b,1,none⟩ (int .u64 ((k:Int)+1))) b g l (k+1) :=
 ⟨h.obj.set 1 _,h.row.other h.ne.symm _,h.ne⟩

theorem Mem.put{w:World}{b g:Nat}{l:List Cel}{k:Nat}(h:Mem w b g l k)(i:Nat)(N M:Int)(K:ByteArray) :
  Mem (((w.setCell ⟨g,i*3,none⟩ (int .u64 N)).setCell ⟨g,i*3+1,none⟩ (.string K)).setCell ⟨g,i*3+2,none⟩ (int .u64 M)) b g (l.set i (N,K,M)) k :=
 ⟨by rw[List.length_set];exact((h.obj.other h.ne _).other h.ne _).other h.ne _,by rw[flat3_set];exact((h.row.set _ _).set _ _).set _ _,h.ne⟩

theorem Mem.others{w:World}{b g:Nat}{l:List Cel}{k:Nat}(h:Mem w b g l k){r:Nat}(hr:b≠r/\g≠r)(u v x:Value):Mem (((w.setCell ⟨r,0,none⟩ u).setCell ⟨r,1,none⟩ v).setCell ⟨r,2,none⟩ x) b g l k :=
 ⟨((h.obj.other hr.1 _).other hr.1 _).other hr.1 _,((h.row.other hr.2 _).other hr.2 _).other hr.2 _,h.ne⟩

def Own(b g:Nat):Nat->Prop:=λ k=>k=b\/k=g

theorem load_any(b g:Nat)(l:List Cel)(k:Nat)(i:Int)(N M:Int)(K:ByteArray)(w:World)(h:Mem w b g l k)(hk:k<9223372036854775808)(hc:cellAt l i=(N,K,M)) :
  Calls prog 83 #[.pointer (some ⟨b,0,none⟩),int .i64 i] w λ e w'=>e=.returned (.agg #[int .u64 N,.string K,int .u64 M])/\Mem w' b g l (k+1)/\Kept (Own b g) w w':=by
 have c1:=h.c1;have hb:=h.obj.lt;have hg:=h.row.lt;have hz:=h.obj.frozen 1;have HC:=Hd hc;clear hc;go_enter func83,ntmps83;go_wp2_with fail;refine(peek_any _ _ l (k+1) _ _ _ _ _ (h.bump.alloc _) HC.o).mono ?_;rintro e w' ⟨rfl,hkp⟩;have hR:Blk w' w.heap.size 59 [int .u64 0,.string ⟨#[]⟩,int .u64 0]:=hkp.blk (by have:=Blk.new (w.setCell ⟨b,1,none⟩ (int .u64 ((k:Int)+1))) [int .u64 0,.string ⟨#[]⟩,int .u64 0] 59;rwa [nblk_setCell] at this) id;have HM:Hid (Mem w' b g l (k+1)):=Hd ((h.bump.alloc _).kept hkp id id);have HK:Hid (Kept (Own b g) w w'):=Hd ((((Kept.refl _ _).setCell (λ_=>.inl rfl) _).alloc _).trans hkp (λ_ _ h=>h.elim));clear hkp c1 hz h;obtain⟨y0,y1,y2⟩:=hR.c3;have z0:=hR.frozen 0;have z1:=hR.frozen 1;have z2:=hR.frozen 2;go_wp2;refine bodyPost_ret (v:=.agg #[int .u64 N,.string K,int .u64 M]) ?_ rfl ⟨rfl,?_,?_⟩
 ·have hQ:=((hR.set 0 (int .u64 N)).set 1 (.string K)).set 2 (int .u64 M)
  obtain⟨q0,q1,q2⟩:=hQ.c3;clear y0 y1 y2 z0 z1 z2 hQ hR HM HK;simp[results,Tryz.results83,go_sem, *]
 ·exact HM.o.others (by omega) _ _ _
 ·exact((HK.o.setCell (λ h=>absurd h (Nat.lt_irrefl _)) _).setCell (λ h=>absurd h (Nat.lt_irrefl _)) _).setCell (λ h=>absurd h (Nat.lt_irrefl _)) _

theorem poke_in(b g:Nat)(l:List Cel)(k i:Nat)(N M:Int)(K:ByteArray)(w:World)(h:Mem w b g l k)(hi:i<l.length) :
  Calls prog 24 #[.pointer (some ⟨b,0,none⟩),int .i64 i,.agg #[int .u64 N,.string K,int .u64 M]] w λ e w'=>e=.returned (.tuple #[])/\Mem w' b g (l.set i (N,K,M)) k/\Kept (Own b g) w w':=by
 have hin:isIn l i=true:=by unfold isIn;simp[hi]
 have hc:=List.getElem?_eq_getElem hi;obtain⟨f1,f2,f3⟩:=flat3_at l i _ hc;have hb:=h.obj.lt;have hg:=h.row.lt;go_enter func24,ntmps24;go_wp2_with (go_at_call 53;refine(has_any _ _ l k _ _ (h.alloc _)).mono ?_;rintro e w' ⟨rfl,rfl⟩);have hM:=h.alloc (.cells #[int .u64 N,.string K,int .u64 M] 59);have hkp:=(Kept.refl (Own b g) w).alloc (.cells #[int .u64 N,.string K,int .u64 M] 59);have x0:(w.alloc (.cells #[int .u64 N,.string K,int .u64 M] 59)).cell? ⟨w.heap.size,0,none⟩=some (int .u64 N):=by simp
 have x1:(w.alloc (.cells #[int .u64 N,.string K,int .u64 M] 59)).cell? ⟨w.heap.size,1,none⟩=some (.string K):=by simp
 have x2:(w.alloc (.cells #[int .u64 N,.string K,int .u64 M] 59)).cell? ⟨w.heap.size,2,none⟩=some (int .u64 M):=by simp
 have HK:=Hd hkp;have HM:=Hd hM;have c0:=hM.c0;have d1:=hM.row.cell f1;have d2:=hM.row.cell f2;have d3:=hM.row.cell f3;have z1:=hM.row.frozen (i*3);have z2:=hM.row.frozen (i*3+1);have z3:=hM.row.frozen (i*3+2);generalize w.heap.size=B at *;clear f1 f2 f3 hc hM hkp h;generalize w.alloc (.cells #[int .u64 N,.string K,int .u64 M] 59)=W at *;go_region;go_wp2;go_end0;exact⟨rfl,(HM.o.put i N M K).drew,(((HK.o.setCell (λ_=>.inr rfl) _).setCell (λ_=>.inr rfl) _).setCell (λ_=>.inr rfl) _).drew⟩

theorem poke_out(b g:Nat)(l:List Cel)(k:Nat)(i:Int)(N M:Int)(K:ByteArray)(w:World)(h:Mem w b g l k)(hi:isIn l i=false) :
  Calls prog 24 #[.pointer (some ⟨b,0,none⟩),int .i64 i,.agg #[int .u64 N,.string K,int .u64 M]] w λ e w'=>e=.returned (.tuple #[])/\Mem w' b g l k/\Kept (Own b g) w w':=by
 go_enter func24,ntmps24;go_wp2_with (go_at_call 53;refine(has_any _ _ l k _ _ (h.alloc _)).mono ?_;rintro e w' ⟨rfl,rfl⟩);go_end0;exact⟨rfl,h.alloc _,(Kept.refl _ _).alloc _⟩

theorem poke_any(b g:Nat)(l:List Cel)(k:Nat)(i:Int)(N M:Int)(K:ByteArray)(w:World)(h:Mem w b g l k) :
  Calls prog 24 #[.pointer (some ⟨b,0,none⟩),int .i64 i,.agg #[int .u64 N,.string K,int .u64 M]] w λ e w'=>e=.returned (.tuple #[])/\Mem w' b g (putAt l i (N,K,M)) k/\Kept (Own b g) w w':=by
 by_cases hi:0<=i/\i<l.length
 ·obtain⟨j,rfl⟩:∃ j:Nat,i=j:=⟨i.toNat,by omega⟩
  rw[putAt_in];exact poke_in b g l k j N M K w h (by omega)
 ·rw[putAt_out l i _ (by omega)]
  exact poke_out b g l k i N M K w h (by unfold isIn;simpa using hi)

theorem field0(a c:Int)(s:ByteArray)(w:World):(Instr.field 59 (.agg #[int .u64 a,.string s,int .u64 c]) 0).run prog w=.ok (int .u64 a) w:=by kernel_rfl

theorem Tryz.info59: (prog.info? 59).map (λ i=>(i.zero,i.size,i.bytes))=some (some (.agg #[int .u64 0,.string ByteArray.empty,int .u64 0]),3,32):=by kernel_rfl

theorem made_zero:∀ n:Nat,(madeCells #[int .u64 0,.string ⟨#[]⟩,int .u64 0] (n*3)).toList=flat3 (List.replicate n cel0):=by
 intro n;apply List.ext_getElem?;intro j
 by_cases hj:j<n*3
 ·have h1:(List.replicate n cel0)[j / 3]? = some cel0:=by rw[List.getElem?_replicate,if_pos (by omega)]
  obtain⟨f1,f2,f3⟩:=flat3_at _ _ _ h1;have hr:j%3<3:=Nat.mod_lt _ (by decide);rcases (by omega:j%3=0\/j%3=1\/j%3=2) with h|h|h
  ·rw[show j / 3*3=j by omega] at f1
   rw[f1];simp[madeCells,hj,h,cel0]
  ·rw[show j / 3*3+1=j by omega] at f2
   rw[f2];simp[madeCells,hj,h,cel0]
  ·rw[show j / 3*3+2=j by omega] at f3
   rw[f3];simp[madeCells,hj,h,cel0]
 ·rw[List.getElem?_eq_none (by simp[madeCells];omega),List.getElem?_eq_none (by rw[flat3_length];simp;omega)]

theorem make_cells(n:Nat)(hn:n<=1099511627776)(w:World) :
  (Instr.makeSlice 34 (int .i64 n) (int .i64 n)).run prog w=.ok (.slice (some ⟨w.heap.size,0,none⟩) n n) (w.alloc (.cells ⟨flat3 (List.replicate n cel0)⟩ 59)):=by
 obtain⟨i,hi,hz0,hz1,hz2⟩:=info_parts Tryz.info59;have hr:=run_make (P:=prog) w 34 59 i _ Tryz.underlying34 hi hz0 .i64 .i64 n n (by omega) (Int.le_refl _) (by rw[hz2];omega) (by omega);rw[hr,hz1];have:=made_zero n
 congr 3
 apply Array.ext';exact this

theorem Mem.new(w:World)(l:List Cel)(k:Nat):Mem ((w.alloc (.cells ⟨flat3 l⟩ 59)).alloc (.cells #[.slice (some ⟨w.heap.size,0,none⟩) l.length l.length,int .u64 k] 93)) (w.heap.size+1) w.heap.size l k :=
 ⟨by have:=Blk.new (w.alloc (.cells ⟨flat3 l⟩ 59)) [.slice (some ⟨w.heap.size,0,none⟩) l.length l.length,int .u64 k] 93;rwa [nblk_alloc] at this,(Blk.new _ _ _).alloc _,by omega⟩

theorem new_ok(n:Nat)(h1:1<=n)(h2:n<=1048576)(w:World) :
  Calls prog 60 #[int .i64 n] w λ e w'=>e=.returned (.tuple #[.pointer (some ⟨w.heap.size+1,0,none⟩),int .i64 0])/\Mem w' (w.heap.size+1) w.heap.size (List.replicate n cel0) 0/\Kept (λ_=>False) w w':=by
 have hmk:=make_cells n (by omega);go_enter func60,ntmps60;go_wp2;go_ret2;have hm:=Mem.new w (List.replicate n cel0) 0;rw[List.length_replicate] at hm;exact⟨rfl,hm,((Kept.refl _ _).alloc _).alloc _⟩

theorem mod_neg(k n:Int)(hn:0<n)(h:k.tmod n<0):k.tmod n+n=k%n:=by
 have e:k%n=k.tmod n%n:=by
  have:=Int.tmod_add_mul_tdiv k n;rw[←this,Int.add_mul_emod_self_left,this]
 have l:=Int.lt_tmod_of_pos k hn;rw[e, ←Int.add_emod_right,Int.emod_eq_of_lt (by omega) (by omega)]

theorem mod_pos(k n:Int)(hn:0<n)(h:0<=k.tmod n):k.tmod n=k%n:=by
 have e:k%n=k.tmod n%n:=by
  have:=Int.tmod_add_mul_tdiv k n;rw[←this,Int.add_mul_emod_self_left,this]
 rw[e,Int.emod_eq_of_lt h (Int.tmod_lt_of_pos k hn)]

theorem ret_int{k:IntKind}{a b:Int}(h:a=b):Ending.returned (.int k a)=.returned (.int k b):=by rw[h]

theorem mod_any(k n:Int)(w:World)(hn:0<n)(hn2:n<=9223372036854775807) :
  Calls prog 13 #[int .i64 k,int .i64 n] w λ e w'=>e=.returned (int .i64 (k%n))/\w=w':=by
 go_enter func13,ntmps13;go_wp2
 ·have hl:=Int.lt_tmod_of_pos k hn
  have h:k.tmod n<0:=by assumption
  go_ret;exact⟨ret_int (by rw[IntWalk.wrap64_in _ (by omega)];exact mod_neg k n hn h),rfl⟩
 ·have h:0<=k.tmod n:=by assumption
  go_ret;exact⟨ret_int (mod_pos k n hn h),rfl⟩

theorem mod_of(k n:Int)(r:Nat)(w:World)(hn:0<n)(hn2:n<=9223372036854775807)(h:k%n=r) :
  Calls prog 13 #[int .i64 k,int .i64 n] w λ e w'=>e=.returned (int .i64 r)/\w=w':=by
 have:=mod_any k n w hn hn2;rwa [h] at this

theorem new_of(n:Int)(N:Nat)(w:World)(h:n=N)(h1:1<=N)(h2:N<=1048576) :
  Calls prog 60 #[int .i64 n] w λ e w'=>e=.returned (.tuple #[.pointer (some ⟨w.heap.size+1,0,none⟩),int .i64 0])/\Mem w' (w.heap.size+1) w.heap.size (List.replicate N cel0) 0/\Kept (λ_=>False) w w':=by
 subst h;exact new_ok N h1 h2 w

theorem cellAt_zero(n:Nat)(i:Int):cellAt (List.replicate n cel0) i=(0,⟨#[]⟩,0):=by
 unfold cellAt;split
 ·rw[List.getD_eq_getElem?_getD,List.getElem?_replicate];split<;>rfl
 ·rfl

theorem fill_start(l:List Cel):l.take 0++List.replicate (l.length-0) cel0=List.replicate l.length cel0:=by simp

theorem fill_step(l:List Cel)(j:Nat)(h:j<l.length)(c:Cel)(hc:l[j]? = some c):(l.take j++List.replicate (l.length-j) cel0).set j c=l.take (j+1)++List.replicate (l.length-(j+1)) cel0:=by
 have e:l.length-j=(l.length-(j+1))+1:=by omega
 rw[e,List.replicate_succ,List.set_append_right _ _ (by rw[List.length_take];omega)];rw[List.length_take,show j-min j l.length=0 by omega,List.set_cons_zero,List.take_succ_eq_append_getElem h];obtain⟨_,rfl⟩:=List.getElem?_eq_some_iff.1 hc;rw[List.append_assoc]
 rfl

theorem fill_end(l:List Cel):l.take l.length++List.replicate (l.length-l.length) cel0=l:=by simp

theorem fill_length(l:List Cel)(j:Nat)(h:j<=l.length):(l.take j++List.replicate (l.length-j) cel0).length=l.length:=by simp;omega

def filled(l:List Cel)(j:Nat):List Value:=flat3 (l.take j++List.replicate (l.length-j) cel0)

theorem filled_at(l:List Cel)(j:Nat)(h:j<l.length):∃ a b c,(filled l j)[j*3]? = some a/\(filled l j)[j*3+1]? = some b/\(filled l j)[j*3+2]? = some c:=by
 have hl:=fill_length l j (by omega);obtain⟨x,hx⟩:∃ x,(l.take j++List.replicate (l.length-j) cel0)[j]? = some x:=⟨_,List.getElem?_eq_getElem (by omega)⟩;obtain⟨f1,f2,f3⟩:=flat3_at _ _ _ hx;exact⟨_,_,_,f1,f2,f3⟩

theorem filled_set(l:List Cel)(j:Nat)(h:j<l.length)(c:Cel)(hc:l[j]? = some c):(((filled l j).set (j*3) (int .u64 c.1)).set (j*3+1) (.string c.2.1)).set (j*3+2) (int .u64 c.2.2)=filled l (j+1):=by
 unfold filled;rw[←flat3_set,fill_step l j h c hc]

theorem kitCells_any(b g:Nat)(l:List Cel)(k:Nat)(w:World)(h:Mem w b g l k)(hl:l.length<=1099511627776) :
  Calls prog 36 #[.pointer (some ⟨b,0,none⟩)] w λ e w'=>e=.returned (.slice (some ⟨w.heap.size,0,none⟩) l.length l.length)/\Blk w' w.heap.size 59 (flat3 l)/\Kept (λ_=>False) w w':=by
 have hmk:=make_cells l.length hl;go_enter func36,ntmps36;go_wp2_with (go_at_call 30;refine(cells_any _ _ l k _ h).mono ?_;rintro e w' ⟨rfl,rfl⟩);go_loopw [4] (λ i wr=>∃ j:Nat,j<=l.length/\i=int .i64 j/\Blk wr w.heap.size 59 (filled l j)/\Kept (λ_=>False) w wr) (λ i _=>l.length-(intOf i).toNat)
 case atStart=>exact⟨0,by omega,rfl,by unfold filled;rw[fill_start];exact Blk.new _ _ _,(Kept.refl _ _).alloc _⟩
 case round =>
  obtain⟨j,hj,rfl,hB,hK⟩:=hrel
  by_cases hlt:j<l.length
  ·have hM:=h.kept hK id id
   obtain⟨N,K,M,hc⟩:∃ N K M,cellAt l j=(N,K,M):=⟨_,_,_,rfl⟩;have hcj:l[j]? = some (N,K,M):=by rw[cellAt_in l j hlt] at hc;rw[List.getElem?_eq_getElem hlt,hc]
   have HC:=Hd hc;have HJ:=Hd hcj;have HB:=Hd hB;have HK:=Hd hK;clear hc hcj hB hK;go_wp2_with fail;refine(peek_any _ _ l k _ _ _ _ _ hM HC.o).mono ?_;rintro e w1 ⟨rfl,hkp⟩;have hB1:=(HB.o.of (hkp.block _ HB.o.lt id):Blk w1 w.heap.size 59 (filled l j));have HK1:=Hd (HK.o.trans hkp kk2);have HS:=Hd (filled_set l j hlt _ HJ.o);obtain⟨x0,x1,x2,f0,f1,f2⟩:=filled_at l j hlt;have y0:=hB1.cell f0;have y1:=hB1.cell f1;have y2:=hB1.cell f2;have z0:=hB1.frozen (j*3);have z1:=hB1.frozen (j*3+1);have z2:=hB1.frozen (j*3+2);have HB1:=Hd hB1;clear f0 f1 f2 hB1 hkp HB HK HC HJ hM;go_wp2;go_roundw
   case rel=>exact⟨j+1,by omega,by go_num,by rw[←HS.o];exact((HB1.o.set _ _).set _ _).set _ _,((HK1.o.setCell (λ h=>absurd h (Nat.lt_irrefl _)) _).setCell (λ h=>absurd h (Nat.lt_irrefl _)) _).setCell (λ h=>absurd h (Nat.lt_irrefl _)) _⟩
   case measure=>simp[intOf];omega
  ·obtain rfl:j=l.length:=by omega
   unfold filled at hB;rw[fill_end] at hB;go_wp2;go_ret;exact⟨rfl,hB,hK⟩

end

section
open Go.RowKit Go.Deep

theorem store_any(b g:Nat)(l:List Cel)(k:Nat)(i:Int)(N M:Int)(K:ByteArray)(w:World)(h:Mem w b g l k)(hk:k<9223372036854775808) :
  Calls prog 125 #[.pointer (some ⟨b,0,none⟩),int .i64 i,.agg #[int .u64 N,.string K,int .u64 M]] w λ e w'=>e=.returned (.tuple #[])/\Mem w' b g (putAt l i (N,K,M)) (k+1)/\Kept (Own b g) w w':=by
 have c1:=h.c1;have hb:=h.obj.lt;have hg:=h.row.lt;have hz:=h.obj.frozen 1;go_enter func125,ntmps125;go_wp2_with fail;refine(poke_any _ _ l (k+1) _ _ _ _ _ (h.bump.alloc _)).mono ?_;rintro e w' ⟨rfl,hM,hkp⟩;have HM:=Hd hM;have HK:Hid (Kept (Own b g) w w'):=Hd ((((Kept.refl _ _).setCell (λ_=>.inl rfl) _).alloc _).trans hkp kk2);clear hM hkp;go_wp2;go_end0;exact⟨rfl,HM.o,HK.o⟩

theorem swap_yes(b g:Nat)(l:List Cel)(k i:Nat)(old N M:Int)(K:ByteArray)(w:World)(h:Mem w b g l k)(hk:k<9223372036854775808)(N' M':Int)(K':ByteArray)(hc:l[i]? = some (N',K',M'))(ho:N'=old) :
  Calls prog 155 #[.pointer (some ⟨b,0,none⟩),int .i64 i,int .u64 old,.agg #[int .u64 N,.string K,int .u64 M]] w λ e w'=>e=.returned (.bool true)/\Mem w' b g (l.set i (N,K,M)) (k+1)/\Kept (Own b g) w w':=by
 subst ho;have c1:=h.c1;have hb:=h.obj.lt;have hg:=h.row.lt;have hz:=h.obj.frozen 1;have hi:i<l.length:=(List.getElem?_eq_some_iff.1 hc).1;have hin:isIn l i=true:=by unfold isIn;simp[hi]
 have hca:cellAt l i=(N',K',M'):=by rw[cellAt_in l i hi];exact(List.getElem?_eq_some_iff.1 hc).2
 have HC:=Hd hca;have hfd:=field0 N' M' K';clear hca hc;go_enter func155,ntmps155;go_wp2_with fail;refine(has_any _ _ l (k+1) _ _ (h.bump.alloc _)).mono ?_;rintro e w1 ⟨rfl,rfl⟩;go_wp2_with fail;refine(peek_any _ _ l (k+1) _ _ _ _ _ (h.bump.alloc _) HC.o).mono ?_;rintro e w2 ⟨rfl,hkp⟩;have hR:Blk w2 w.heap.size 59 [int .u64 N,.string K,int .u64 M]:=hkp.blk (by have:=Blk.new (w.setCell ⟨b,1,none⟩ (int .u64 ((k:Int)+1))) [int .u64 N,.string K,int .u64 M] 59;rwa [nblk_setCell] at this) id;have HM:Hid (Mem w2 b g l (k+1)):=Hd ((h.bump.alloc _).kept hkp id id);have HK:Hid (Kept (Own b g) w w2):=Hd ((((Kept.refl _ _).setCell (λ_=>.inl rfl) _).alloc _).trans hkp (λ_ _ h=>h.elim));clear hkp c1 hz h;obtain⟨y0,y1,y2⟩:=hR.c3;go_wp2_with fail;refine(poke_any _ _ l (k+1) _ _ _ _ _ HM.o).mono ?_;rintro e w3 ⟨rfl,hM3,hkp3⟩;have HM3:=Hd hM3;have HK3:=Hd hkp3;clear hM3 hkp3 HM y0 y1 y2;go_wp2;go_ret;exact⟨rfl,by have:=HM3.o;rwa [putAt_in] at this,HK.o.trans HK3.o kk2⟩

theorem swap_out(b g:Nat)(l:List Cel)(k:Nat)(i:Int)(old N M:Int)(K:ByteArray)(w:World)(h:Mem w b g l k)(hk:k<9223372036854775808)(hi:isIn l i=false) :
  Calls prog 155 #[.pointer (some ⟨b,0,none⟩),int .i64 i,int .u64 old,.agg #[int .u64 N,.string K,int .u64 M]] w λ e w'=>e=.returned (.bool false)/\Mem w' b g l (k+1)/\Kept (Own b g) w w':=by
 have c1:=h.c1;have hb:=h.obj.lt;have hg:=h.row.lt;have hz:=h.obj.frozen 1;go_enter func155,ntmps155;go_wp2_with fail;refine(has_any _ _ l (k+1) _ _ (h.bump.alloc _)).mono ?_;rintro e w1 ⟨rfl,rfl⟩;go_wp2_with fail;go_ret;exact⟨rfl,h.bump.alloc _,((Kept.refl _ _).setCell (λ_=>.inl rfl) _).alloc _⟩

theorem swap_no(b g:Nat)(l:List Cel)(k i:Nat)(old N M:Int)(K:ByteArray)(w:World)(h:Mem w b g l k)(hk:k<9223372036854775808)(N' M':Int)(K':ByteArray)(hc:l[i]? = some (N',K',M'))(ho:(N' == old)=false) :
  Calls prog 155 #[.pointer (some ⟨b,0,none⟩),int .i64 i,int .u64 old,.agg #[int .u64 N,.string K,int .u64 M]] w λ e w'=>e=.returned (.bool false)/\Mem w' b g l (k+1)/\Kept (Own b g) w w':=by
 have c1:=h.c1;have hb:=h.obj.lt;have hg:=h.row.lt;have hz:=h.obj.frozen 1;have hi:i<l.length:=(List.getElem?_eq_some_iff.1 hc).1;have hin:isIn l i=true:=by unfold isIn;simp[hi]
 have hca:cellAt l i=(N',K',M'):=by rw[cellAt_in l i hi];exact(List.getElem?_eq_some_iff.1 hc).2
 have HC:=Hd hca;have hfd:=field0 N' M' K';clear hca hc;go_enter func155,ntmps155;go_wp2_with fail;refine(has_any _ _ l (k+1) _ _ (h.bump.alloc _)).mono ?_;rintro e w1 ⟨rfl,rfl⟩;go_wp2_with fail;refine(peek_any _ _ l (k+1) _ _ _ _ _ (h.bump.alloc _) HC.o).mono ?_;rintro e w2 ⟨rfl,hkp⟩;have HM:Hid (Mem w2 b g l (k+1)):=Hd ((h.bump.alloc _).kept hkp id id);have HK:Hid (Kept (Own b g) w w2):=Hd ((((Kept.refl _ _).setCell (λ_=>.inl rfl) _).alloc _).trans hkp (λ_ _ h=>h.elim));clear hkp c1 hz h;go_wp2;go_ret;exact⟨rfl,HM.o,HK.o⟩

def swaps(l:List Cel)(i old:Int):Bool:=isIn l i&&(cellAt l i).1==old

theorem swap_any(b g:Nat)(l:List Cel)(k:Nat)(i:Int)(old N M:Int)(K:ByteArray)(w:World)(h:Mem w b g l k)(hk:k<9223372036854775808) :
  Calls prog 155 #[.pointer (some ⟨b,0,none⟩),int .i64 i,int .u64 old,.agg #[int .u64 N,.string K,int .u64 M]] w λ e w'=>e=.returned (.bool (swaps l i old))/\Mem w' b g (if swaps l i old then putAt l i (N,K,M) else l) (k+1)/\Kept (Own b g) w w':=by
 by_cases hi:0<=i/\i<l.length
 ·obtain⟨j,rfl⟩:∃ j:Nat,i=j:=⟨i.toNat,by omega⟩
  have hj:j<l.length:=by omega
  have hin:isIn l j=true:=by unfold isIn;simp[hj]
  have hca:=cellAt_in l j hj;have hs:swaps l j old=(l[j].1==old):=by unfold swaps;rw[hin,hca];rfl
  cases hq:(l[j].1==old)
  ·rw[hs,hq];simp only[Bool.false_eq_true,if_false]
   exact swap_no b g l k j old N M K w h hk l[j].1 l[j].2.2 l[j].2.1 (by rw[List.getElem?_eq_getElem hj]) hq
  ·rw[hs,hq];simp only[if_true,putAt_in]
   exact swap_yes b g l k j old N M K w h hk l[j].1 l[j].2.2 l[j].2.1 (by rw[List.getElem?_eq_getElem hj]) (by simpa using hq)
 ·have hin:isIn l i=false:=by unfold isIn;simpa using hi
  have hs:swaps l i old=false:=by unfold swaps;rw[hin];rfl
  rw[hs];simp only[Bool.false_eq_true,if_false];exact swap_out b g l k i old N M K w h hk hin

theorem swap_of(b g:Nat)(l l':List Cel)(k:Nat)(i:Int)(old N M:Int)(K:ByteArray)(r:Bool)(w:World)(h:Mem w b g l k)(hk:k<9223372036854775808)(hr:swaps l i old=r)(hl:(if r then putAt l i (N,K,M) else l)=l') :
  Calls prog 155 #[.pointer (some ⟨b,0,none⟩),int .i64 i,int .u64 old,.agg #[int .u64 N,.string K,int .u64 M]] w λ e w'=>e=.returned (.bool r)/\Mem w' b g l' (k+1)/\Kept (Own b g) w w':=by
 subst hr hl;exact swap_any b g l k i old N M K w h hk
end

section
open Go.RowKit Go.Deep


def lockW(x:Nat):Nat:=x / 2*2+1

theorem lockW_lt{x:Nat}(h:x<18446744073709551616):lockW x<18446744073709551616:=by unfold lockW;omega

theorem half_bit(i x d:Nat)(c:Nat)(hc:c<2):(2*(x / 2 ^ (i+1))+c).testBit (d+1)=x.testBit (i+1+d):=by
 rw[Nat.testBit_add_one];have:(2*(x / 2 ^ (i+1))+c) / 2=x / 2 ^ (i+1):=by omega
 rw[this,Nat.testBit_div_two_pow,Nat.add_comm d]

theorem part_eq(i x c:Nat):x / 2 ^ (i+1)*2 ^ (i+1)+c*2 ^ i+x%2 ^ i=2 ^ i*(2*(x / 2 ^ (i+1))+c)+x%2 ^ i:=by
 generalize x / 2 ^ (i+1)=q;rw[Nat.pow_succ,Nat.mul_add,Nat.mul_comm c, ←Nat.mul_assoc,Nat.mul_comm (q*2 ^ i) 2,Nat.mul_comm q,Nat.mul_left_comm]

theorem nat_or_bit(i x:Nat):x ||| 2 ^ i=x / 2 ^ (i+1)*2 ^ (i+1)+1*2 ^ i+x%2 ^ i:=by
 apply Nat.eq_of_testBit_eq;intro j;rw[part_eq,Nat.testBit_or,Nat.testBit_two_pow_mul_add _ (Nat.mod_lt _ (Nat.two_pow_pos i)),Nat.testBit_two_pow]
 by_cases hj:j<i
 ·have:¬ i=j:=by omega
  simp[hj,this]
 ·by_cases hji:i=j
  ·subst hji;simp
  ·obtain⟨d,rfl⟩:∃ d,j=i+1+d:=⟨j-i-1,by omega⟩
   have h2:i+1+d-i=d+1:=by omega
   rw[if_neg hj,h2,half_bit i x d 1 (by omega)];simp[hji]

theorem or1(x:Nat)(h:x<18446744073709551616):bits .or .u64 x 1=((lockW x:Nat):Int):=by
 have e:=nat_or_bit 0 x;rw[show (1:Int)=((1:Nat):Int) from rfl,u64_or_nat x 1 h (by decide)]
 congr 1
 rw[show (1:Nat)=2 ^ 0 from rfl,e];simp[lockW,Nat.mod_one]

theorem and2(x:Nat)(h:x<18446744073709551616):bits .and .u64 x 2=((x / 2%2*2:Nat):Int):=by
 rw[show (2:Int)=((2:Nat):Int) from rfl,u64_and_nat x 2 h (by decide)];exact congrArg _ (nat_bit 1 x)

theorem ret_word{a b:Int}(h:a=b):Ending.returned (int .u64 a)=.returned (int .u64 b):=by rw[h]

theorem ret_bool{a b:Bool}(h:a=b):Ending.returned (.bool a)=.returned (.bool b):=by rw[h]

theorem changing_any(x:Nat)(h:x<18446744073709551616)(w:World) :
  Calls prog 170 #[int .u64 x] w λ e w'=>e=.returned (.bool (x / 2%2==1))/\w=w':=by
 have hb:=and2 x h;go_enter func170,ntmps170;go_wp2;go_ret;exact⟨ret_bool (by rw[Bool.eq_iff_iff];simp;omega),rfl⟩

theorem lock_any(x:Nat)(h:x<18446744073709551616)(w:World) :
  Calls prog 154 #[int .u64 x] w λ e w'=>e=.returned (int .u64 ((lockW x:Nat):Int))/\w=w':=by
 have hb:=or1 x h;go_enter func154,ntmps154;go_wp2;go_ret;exact⟨rfl,rfl⟩

theorem changing_of(x:Nat)(b:Bool)(h:x<18446744073709551616)(hb:(x / 2%2==1)=b)(w:World) :
  Calls prog 170 #[int .u64 x] w λ e w'=>e=.returned (.bool b)/\w=w':=by subst hb;exact changing_any x h w

theorem lock_of(x y:Nat)(h:x<18446744073709551616)(hy:lockW x=y)(w:World) :
  Calls prog 154 #[int .u64 x] w λ e w'=>e=.returned (int .u64 ((y:Nat):Int))/\w=w':=by subst hy;exact lock_any x h w

theorem same_any(v x:Nat)(hv:v<18446744073709551616)(h:x<18446744073709551616)(w:World) :
  Calls prog 172 #[int .u64 v,int .u64 x] w λ e w'=>e=.returned (.bool (v / 2==x / 2))/\w=w':=by
 go_enter func172,ntmps172;go_wp2_with fail;refine(lock_any v hv _).mono ?_;rintro e w2 ⟨rfl,rfl⟩;go_wp2_with fail;refine(lock_any x h _).mono ?_;rintro e w2 ⟨rfl,rfl⟩;go_wp2;go_ret;exact⟨ret_bool (by rw[Bool.eq_iff_iff];simp[lockW];omega),rfl⟩

theorem same_of(v x:Nat)(b:Bool)(hv:v<18446744073709551616)(h:x<18446744073709551616)(hb:(v / 2==x / 2)=b)(w:World) :
  Calls prog 172 #[int .u64 v,int .u64 x] w λ e w'=>e=.returned (.bool b)/\w=w':=by subst hb;exact same_any v x hv h w
end

section
open Go.RowKit Go.Deep

def unlockW(x:Nat):Nat:=x / 2*2
def beginW(x:Nat):Nat:=x / 4*4+2+x%2
def endW(x:Nat):Nat:=(x / 4*4+x%2+4)%18446744073709551616

theorem unlockW_lt{x:Nat}(h:x<18446744073709551616):unlockW x<18446744073709551616:=by unfold unlockW;omega
theorem beginW_lt{x:Nat}(h:x<18446744073709551616):beginW x<18446744073709551616:=by unfold beginW;omega
theorem endW_lt(x:Nat):endW x<18446744073709551616:=by unfold endW;omega

theorem nat_not_bit(i x:Nat)(h:x<2 ^ 64)(hi:2 ^ i<2 ^ 64):x &&& (2 ^ 64-(2 ^ i+1))=x / 2 ^ (i+1)*2 ^ (i+1)+0*2 ^ i+x%2 ^ i:=by
 apply Nat.eq_of_testBit_eq;intro j;rw[part_eq,Nat.testBit_and,Nat.testBit_two_pow_sub_succ hi,Nat.testBit_two_pow_mul_add _ (Nat.mod_lt _ (Nat.two_pow_pos i)),Nat.testBit_two_pow]
 by_cases h64:j<64
 ·by_cases hj:j<i
  ·have:¬ i=j:=by omega
   simp[hj,this,h64]
  ·by_cases hji:i=j
   ·subst hji;simp
   ·obtain⟨d,rfl⟩:∃ d,j=i+1+d:=⟨j-i-1,by omega⟩
    have h2:i+1+d-i=d+1:=by omega
    rw[if_neg hj,h2,half_bit i x d 0 (by omega)];simp[hji,h64]
 ·have hx:x.testBit j=false:=Nat.testBit_lt_two_pow (Nat.lt_of_lt_of_le h (Nat.pow_le_pow_right (by decide) (by omega)))
  have hi64:i<64:=(Nat.pow_lt_pow_iff_right (by decide)).1 hi;have hj:¬ j<i:=by omega
  obtain⟨d,rfl⟩:∃ d,j=i+1+d:=⟨j-i-1,by omega⟩;have h2:i+1+d-i=d+1:=by omega
  rw[if_neg hj,h2,half_bit i x d 0 (by omega)];simp[hx]

theorem or2(x:Nat)(h:x<18446744073709551616):bits .or .u64 x 2=((beginW x:Nat):Int):=by
 have e:=nat_or_bit 1 x;rw[show (2:Int)=((2:Nat):Int) from rfl,u64_or_nat x 2 h (by decide)]
 congr 1
theorem not1(x:Nat)(h:x<18446744073709551616):bits .andNot .u64 x 1=((unlockW x:Nat):Int):=by
 have e:=nat_not_bit 0 x h (by decide);rw[show (1:Int)=((1:Nat):Int) from rfl,u64_andNot_nat x 1 h (by decide)]
 congr 1
 refine e.trans ?_;simp[unlockW,Nat.mod_one]
theorem not2(x:Nat)(h:x<18446744073709551616):bits .andNot .u64 x 2=((x / 4*4+x%2:Nat):Int):=by
 have e:=nat_not_bit 1 x h (by decide);rw[show (2:Int)=((2:Nat):Int) from rfl,u64_andNot_nat x 2 h (by decide)];exact congrArg _ (e.trans (by simp))
theorem and1(x:Nat)(h:x<18446744073709551616):bits .and .u64 x 1=((x%2:Nat):Int):=by
 rw[show (1:Int)=((1:Nat):Int) from rfl,u64_and_nat x 1 h (by decide),nat_mask1]
theorem locked_any(x:Nat)(h:x<18446744073709551616)(w:World) :
  Calls prog 156 #[int .u64 x] w λ e w'=>e=.returned (.bool (x%2==1))/\w=w':=by
 have hb:=and1 x h;go_enter func156,ntmps156;go_wp2;go_ret;exact⟨ret_bool (by rw[Bool.eq_iff_iff];simp;omega),rfl⟩

theorem unlock_any(x:Nat)(h:x<18446744073709551616)(w:World) :
  Calls prog 126 #[int .u64 x] w λ e w'=>e=.returned (int .u64 ((unlockW x:Nat):Int))/\w=w':=by
 have hb:=not1 x h;go_enter func126,ntmps126;go_wp2;go_ret;exact⟨rfl,rfl⟩

theorem begin_any(x:Nat)(h:x<18446744073709551616)(w:World) :
  Calls prog 166 #[int .u64 x] w λ e w'=>e=.returned (int .u64 ((beginW x:Nat):Int))/\w=w':=by
 have hb:=or2 x h;go_enter func166,ntmps166;go_wp2;go_ret;exact⟨rfl,rfl⟩

theorem end_any(x:Nat)(h:x<18446744073709551616)(w:World) :
  Calls prog 168 #[int .u64 x] w λ e w'=>e=.returned (int .u64 ((endW x:Nat):Int))/\w=w':=by
 have hb:=not2 x h;go_enter func168,ntmps168;go_wp2;go_ret;exact⟨ret_word (by unfold endW;rw[IntKind.wrap_u64];omega),rfl⟩

theorem begin_of(x y:Nat)(h:x<18446744073709551616)(hy:beginW x=y)(w:World) :
  Calls prog 166 #[int .u64 x] w λ e w'=>e=.returned (int .u64 ((y:Nat):Int))/\w=w':=by subst hy;exact begin_any x h w
theorem end_of(x y:Nat)(h:x<18446744073709551616)(hy:endW x=y)(w:World) :
  Calls prog 168 #[int .u64 x] w λ e w'=>e=.returned (int .u64 ((y:Nat):Int))/\w=w':=by subst hy;exact end_any x h w
end
end Go.Proofs.YtlkgmnjceghpiaaGreat
