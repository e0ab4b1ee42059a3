/-
  What package layout,its reference,Start,and the kit's Config and Memory answer. Condition: sizes within their limits.
-/
import Derived.Test.YtlkgmnjceghpiaaGreatLkMem
import Derived.Test.YtlkgmnjceghpiaaGreatLkPlain
import Derived.Deep.RegionHeld3
import Derived.Deep.DeepCutAuto
import Derived.Deep.RegionWith
import Derived.Deep.DrawnRows
import Derived.StillTailTactics
namespace Go.Proofs.YtlkgmnjceghpiaaGreat
set_option linter.unusedVariables false
open _root_.Go.Proofs.Tryz
open Go.Value (int)
set_option maxHeartbeats 8000000
set_option maxRecDepth 100000
section
open Go.RowKit Go.Deep


theorem between_yes(n lo hi:Int)(h1:lo<=n)(h2:n<=hi)(w:World) :
    Calls prog 152 #[int .i64 n,int .i64 lo,int .i64 hi] w λ e w'=>e=.returned (.bool true)/\w=w':=by
  go_enter func152,ntmps152;go_wp2;go_ret;exact⟨rfl,rfl⟩

theorem between_no1(n lo hi:Int)(h1:n<lo)(w:World) :
    Calls prog 152 #[int .i64 n,int .i64 lo,int .i64 hi] w λ e w'=>e=.returned (.bool false)/\w=w':=by
  have h:decide (lo<=n)=false:=by simp;omega
  go_enter func152,ntmps152;go_wp2;go_ret;exact⟨rfl,rfl⟩

theorem between_no2(n lo hi:Int)(h1:lo<=n)(h2:hi<n)(w:World) :
    Calls prog 152 #[int .i64 n,int .i64 lo,int .i64 hi] w λ e w'=>e=.returned (.bool false)/\w=w':=by
  have h:decide (n<=hi)=false:=by simp;omega
  go_enter func152,ntmps152;go_wp2;go_ret;exact⟨rfl,rfl⟩

theorem numbered_yes(n c:Int)(h1:1<=n)(h2:n<=c)(h3:c<=1000000)(w:World) :
    Calls prog 153 #[int .u64 n,int .i64 c] w λ e w'=>e=.returned (.bool true)/\w=w':=by
  go_enter func153,ntmps153;go_wp2;go_ret;exact⟨rfl,rfl⟩

theorem numbered_no(n c:Int)(h1:n<1\/c<n)(h2:0<=c)(h3:c<=1000000)(w:World) :
    Calls prog 153 #[int .u64 n,int .i64 c] w λ e w'=>e=.returned (.bool false)/\w=w':=by
  by_cases hn:1<=n
  · have h:decide (n<=c)=false:=by simp;omega
    clear h1;go_enter func153,ntmps153;go_wp2;go_ret;exact⟨rfl,rfl⟩
  · have h:decide (1<=n)=false:=by simp;omega
    clear h1;go_enter func153,ntmps153;go_wp2;go_ret;exact⟨rfl,rfl⟩

theorem recordCells_any(n:Int)(h1:0<=n)(h2:n<=1000000)(w:World) :
    Calls prog 115 #[int .i64 n] w λ e w'=>e=.returned (int .i64 (n*3))/\w=w':=by
  go_enter func115,ntmps115;go_wp2;go_ret;exact⟨ret_int (by omega),rfl⟩

theorem nodeCells_any(T S N C R F K a b d n:Int)(h1:0<=n)(h2:n<=1000000)(h3:0<=n*F)(h4:n*F<=100000000)(w:World) :
    Calls prog 114 #[.agg #[int .i64 T,int .i64 S,int .i64 N,int .i64 C,int .i64 R,int .i64 F,int .u64 K,int .i64 a,int .i64 b,int .i64 d],int .i64 n] w λ e w'=>e=.returned (int .i64 (n*F+n*4))/\Kept (λ_=>False) w w':=by
  go_enter func114,ntmps114;go_wp2;go_ret;exact⟨ret_int (by omega),(Kept.refl _ _).alloc _⟩

theorem cells_of(T S N C R F K a b d:Int)(hl:Lim T S N C R F)(hd:Reach3 a b d)(w:World) :
    Calls prog 61 #[.agg #[int .i64 T,int .i64 S,int .i64 N,int .i64 C,int .i64 R,int .i64 F,int .u64 K,int .i64 a,int .i64 b,int .i64 d]] w λ e w'=>e=.returned (int .i64 (d+R*3))/\Kept (λ_=>False) w w':=by
  have lt1:=hl.t1;have lt2:=hl.t2;have ls1:=hl.s1;have ls2:=hl.s2;have ln1:=hl.n1;have ln2:=hl.n2;have lc1:=hl.c1;have lc2:=hl.c2;have lr1:=hl.r1;have lr2:=hl.r2;have lf1:=hl.f1;have lf2:=hl.f2;have la1:=hd.a1;have la2:=hd.a2;have lb1:=hd.b1;have lb2:=hd.b2;have ld1:=hd.d1;have ld2:=hd.d2;go_enter func61,ntmps61;go_wp2;go_quiet ((go_at_call 115;exact Calls.still (recordCells_any R (by omega) (by omega) _)));go_wp2;go_ret;exact⟨rfl,((Kept.refl _ _).alloc _).drewN _⟩

theorem root_any(T S N C R F K a b d:Int)(w:World) :
    Calls prog 62 #[.agg #[int .i64 T,int .i64 S,int .i64 N,int .i64 C,int .i64 R,int .i64 F,int .u64 K,int .i64 a,int .i64 b,int .i64 d]] w λ e w'=>e=.returned (int .i64 0)/\Kept (λ_=>False) w w':=by
  go_enter func62,ntmps62;go_wp2;go_ret;exact⟨rfl,(Kept.refl _ _).alloc _⟩

theorem nodes_any(T S N C R F K a b d:Int)(w:World) :
    Calls prog 63 #[.agg #[int .i64 T,int .i64 S,int .i64 N,int .i64 C,int .i64 R,int .i64 F,int .u64 K,int .i64 a,int .i64 b,int .i64 d]] w λ e w'=>e=.returned (int .i64 4)/\Kept (λ_=>False) w w':=by
  go_enter func63,ntmps63;go_wp2;go_ret;exact⟨rfl,(Kept.refl _ _).alloc _⟩

theorem node_yes(T S N C R F K a b d n part:Int)(hl:Lim T S N C R F)(hd:Reach3 a b d)(h1:1<=n)(h2:n<=N)(h3:0<=part)(h4:part<=1000)(w:World) :
    Calls prog 116 #[.agg #[int .i64 T,int .i64 S,int .i64 N,int .i64 C,int .i64 R,int .i64 F,int .u64 K,int .i64 a,int .i64 b,int .i64 d],int .u64 n,int .i64 part] w λ e w'=>e=.returned (int .i64 (nodeAt N F a n part))/\Kept (λ_=>False) w w':=by
  have lt1:=hl.t1;have lt2:=hl.t2;have ls1:=hl.s1;have ls2:=hl.s2;have ln1:=hl.n1;have ln2:=hl.n2;have lc1:=hl.c1;have lc2:=hl.c2;have lr1:=hl.r1;have lr2:=hl.r2;have lf1:=hl.f1;have lf2:=hl.f2;have la1:=hd.a1;have la2:=hd.a2;have lb1:=hd.b1;have lb2:=hd.b2;have ld1:=hd.d1;have ld2:=hd.d2;have hp:=mul_bd (n-1) F 4096 32 (by omega) (by omega) (by omega) (by omega);have hp1:=hp.1;have hp2:(n-1)*F<=131072:=hp.2;clear hp hl;go_enter func116,ntmps116;go_wp2_with (go_at_call 153;refine(numbered_yes n N h1 h2 (by omega) _).mono ?_;rintro e w1 ⟨rfl,rfl⟩);have hN0:=Blk.new w [int .i64 T,int .i64 S,int .i64 N,int .i64 C,int .i64 R,int .i64 F,int .u64 K,int .i64 a,int .i64 b,int .i64 d] 28;obtain⟨x0,x1,x2,x3,x4,x5,x6,x7,x8,x9⟩:=hN0.c10;have hr:w.heap.size<(w.alloc (.cells #[int .i64 T,int .i64 S,int .i64 N,int .i64 C,int .i64 R,int .i64 F,int .u64 K,int .i64 a,int .i64 b,int .i64 d] 28)).heap.size:=hN0.lt;have HK:=Hd ((Kept.refl (λ_=>False) w).alloc (.cells #[int .i64 T,int .i64 S,int .i64 N,int .i64 C,int .i64 R,int .i64 F,int .u64 K,int .i64 a,int .i64 b,int .i64 d] 28));clear hN0;generalize w.alloc (.cells #[int .i64 T,int .i64 S,int .i64 N,int .i64 C,int .i64 R,int .i64 F,int .u64 K,int .i64 a,int .i64 b,int .i64 d] 28)=W at *;generalize w.heap.size=r at *;have e1:IntKind.u64.wrap (n-1)=n-1:=IntWalk.u64_in _ (by omega);have e2:IntKind.i64.wrap (n-1)=n-1:=IntWalk.i64_in _ (by omega);go_region_held3 (λ w'=>Kept (λ_=>False) W w'/\w'.cell? ⟨r,0,none⟩=some (int .i64 T)/\w'.cell? ⟨r,1,none⟩=some (int .i64 S)/\w'.cell? ⟨r,2,none⟩=some (int .i64 N)/\w'.cell? ⟨r,3,none⟩=some (int .i64 C)/\w'.cell? ⟨r,4,none⟩=some (int .i64 R)/\w'.cell? ⟨r,5,none⟩=some (int .i64 F)/\w'.cell? ⟨r,6,none⟩=some (int .u64 K)/\w'.cell? ⟨r,7,none⟩=some (int .i64 a)/\w'.cell? ⟨r,8,none⟩=some (int .i64 b)/\w'.cell? ⟨r,9,none⟩=some (int .i64 d))
    (first|exact⟨(Kept.refl _ _).drew,x0,x1,x2,x3,x4,x5,x6,x7,x8,x9⟩|exact keep10 (by assumption) hr (by assumption)|exact keep10 (Kept.ofDrew (by assumption)) hr (by assumption))
    (first|(go_at_call 114;refine(nodeCells_any T S N C R F K a b d (n-1) (by omega) (by omega) hp1 (by omega) _).mono ?_;rintro e w9 ⟨rfl,hK9⟩))
  go_wp2;go_ret;exact⟨ret_int (by rw[IntWalk.i64_in (a+((n-1)*F+(n-1)*4)) (by omega),IntWalk.i64_in _ (by omega)];unfold nodeAt;rw[if_pos ⟨h1,h2⟩]),HK.o.trans hK9.ofDrew kk2⟩

theorem node_no(T S N C R F K a b d n part:Int)(hl:Lim T S N C R F)(h1:n<1\/N<n)(w:World) :
    Calls prog 116 #[.agg #[int .i64 T,int .i64 S,int .i64 N,int .i64 C,int .i64 R,int .i64 F,int .u64 K,int .i64 a,int .i64 b,int .i64 d],int .u64 n,int .i64 part] w λ e w'=>e=.returned (int .i64 (nodeAt N F a n part))/\Kept (λ_=>False) w w':=by
  have ln1:=hl.n1;have ln2:=hl.n2;go_enter func116,ntmps116;go_wp2_with (go_at_call 153;refine(numbered_no n N h1 (by omega) (by omega) _).mono ?_;rintro e w1 ⟨rfl,rfl⟩);go_ret;exact⟨ret_int (by unfold nodeAt;rw[if_neg (by omega)]),(Kept.refl _ _).alloc _⟩

theorem node_any(T S N C R F K a b d n part:Int)(hl:Lim T S N C R F)(hd:Reach3 a b d)(h3:0<=part)(h4:part<=1000)(w:World) :
    Calls prog 116 #[.agg #[int .i64 T,int .i64 S,int .i64 N,int .i64 C,int .i64 R,int .i64 F,int .u64 K,int .i64 a,int .i64 b,int .i64 d],int .u64 n,int .i64 part] w λ e w'=>e=.returned (int .i64 (nodeAt N F a n part))/\Kept (λ_=>False) w w':=by
  by_cases h:1<=n/\n<=N
  · exact node_yes T S N C R F K a b d n part hl hd h.1 h.2 h3 h4 w
  · exact node_no T S N C R F K a b d n part hl (by omega) w

theorem latch_any(T S N C R F K a b d n:Int)(hl:Lim T S N C R F)(hd:Reach3 a b d)(w:World) :
    Calls prog 98 #[.agg #[int .i64 T,int .i64 S,int .i64 N,int .i64 C,int .i64 R,int .i64 F,int .u64 K,int .i64 a,int .i64 b,int .i64 d],int .u64 n] w λ e w'=>e=.returned (int .i64 (nodeAt N F a n 0))/\Kept (λ_=>False) w w':=by
  go_enter func98,ntmps98;go_wp2_with (go_at_call 116;refine(node_any T S N C R F K a b d n 0 hl hd (by omega) (by omega) _).mono ?_;rintro e w1 ⟨rfl,hK1⟩);go_ret;exact⟨rfl,((Kept.refl _ _).alloc _).trans hK1 kk2⟩

theorem head_any(T S N C R F K a b d n:Int)(hl:Lim T S N C R F)(hd:Reach3 a b d)(w:World) :
    Calls prog 85 #[.agg #[int .i64 T,int .i64 S,int .i64 N,int .i64 C,int .i64 R,int .i64 F,int .u64 K,int .i64 a,int .i64 b,int .i64 d],int .u64 n] w λ e w'=>e=.returned (int .i64 (nodeAt N F a n 1))/\Kept (λ_=>False) w w':=by
  go_enter func85,ntmps85;go_wp2_with (go_at_call 116;refine(node_any T S N C R F K a b d n 1 hl hd (by omega) (by omega) _).mono ?_;rintro e w1 ⟨rfl,hK1⟩);go_ret;exact⟨rfl,((Kept.refl _ _).alloc _).trans hK1 kk2⟩

theorem high_any(T S N C R F K a b d n:Int)(hl:Lim T S N C R F)(hd:Reach3 a b d)(w:World) :
    Calls prog 64 #[.agg #[int .i64 T,int .i64 S,int .i64 N,int .i64 C,int .i64 R,int .i64 F,int .u64 K,int .i64 a,int .i64 b,int .i64 d],int .u64 n] w λ e w'=>e=.returned (int .i64 (nodeAt N F a n 2))/\Kept (λ_=>False) w w':=by
  go_enter func64,ntmps64;go_wp2_with (go_at_call 116;refine(node_any T S N C R F K a b d n 2 hl hd (by omega) (by omega) _).mono ?_;rintro e w1 ⟨rfl,hK1⟩);go_ret;exact⟨rfl,((Kept.refl _ _).alloc _).trans hK1 kk2⟩

theorem right_any(T S N C R F K a b d n:Int)(hl:Lim T S N C R F)(hd:Reach3 a b d)(w:World) :
    Calls prog 173 #[.agg #[int .i64 T,int .i64 S,int .i64 N,int .i64 C,int .i64 R,int .i64 F,int .u64 K,int .i64 a,int .i64 b,int .i64 d],int .u64 n] w λ e w'=>e=.returned (int .i64 (nodeAt N F a n 3))/\Kept (λ_=>False) w w':=by
  go_enter func173,ntmps173;go_wp2_with (go_at_call 116;refine(node_any T S N C R F K a b d n 3 hl hd (by omega) (by omega) _).mono ?_;rintro e w1 ⟨rfl,hK1⟩);go_ret;exact⟨rfl,((Kept.refl _ _).alloc _).trans hK1 kk2⟩

theorem slot_yes(T S N C R F K a b d n i:Int)(hl:Lim T S N C R F)(hd:Reach3 a b d)(h1:0<=i)(h2:i<F)(w:World) :
    Calls prog 174 #[.agg #[int .i64 T,int .i64 S,int .i64 N,int .i64 C,int .i64 R,int .i64 F,int .u64 K,int .i64 a,int .i64 b,int .i64 d],int .u64 n,int .i64 i] w λ e w'=>e=.returned (int .i64 (slotAt N F a n i))/\Kept (λ_=>False) w w':=by
  have lt1:=hl.t1;have lt2:=hl.t2;have ls1:=hl.s1;have ls2:=hl.s2;have ln1:=hl.n1;have ln2:=hl.n2;have lc1:=hl.c1;have lc2:=hl.c2;have lr1:=hl.r1;have lr2:=hl.r2;have lf1:=hl.f1;have lf2:=hl.f2;go_enter func174,ntmps174;go_wp2_with (first|(go_at_call 152;refine(between_yes i 0 (F-1) h1 (by omega) _).mono ?_;rintro e w1 ⟨rfl,rfl⟩)|(go_at_call 116;refine(node_any T S N C R F K a b d n (4+i) hl hd (by omega) (by omega) _).mono ?_;rintro e w2 ⟨rfl,hK1⟩));go_ret;exact⟨ret_int (by unfold slotAt;rw[if_pos ⟨h1,h2⟩]),((Kept.refl _ _).alloc _).trans hK1 kk2⟩

theorem slot_no1(T S N C R F K a b d n i:Int)(hl:Lim T S N C R F)(h1:i<0)(w:World) :
    Calls prog 174 #[.agg #[int .i64 T,int .i64 S,int .i64 N,int .i64 C,int .i64 R,int .i64 F,int .u64 K,int .i64 a,int .i64 b,int .i64 d],int .u64 n,int .i64 i] w λ e w'=>e=.returned (int .i64 (slotAt N F a n i))/\Kept (λ_=>False) w w':=by
  have lt1:=hl.t1;have lt2:=hl.t2;have ls1:=hl.s1;have ls2:=hl.s2;have ln1:=hl.n1;have ln2:=hl.n2;have lc1:=hl.c1;have lc2:=hl.c2;have lr1:=hl.r1;have lr2:=hl.r2;have lf1:=hl.f1;have lf2:=hl.f2;go_enter func174,ntmps174;go_wp2_with (go_at_call 152;refine(between_no1 i 0 (F-1) h1 _).mono ?_;rintro e w1 ⟨rfl,rfl⟩);go_ret;exact⟨ret_int (by unfold slotAt;rw[if_neg (by omega)]),(Kept.refl _ _).alloc _⟩

theorem slot_no2(T S N C R F K a b d n i:Int)(hl:Lim T S N C R F)(h1:F<=i)(w:World) :
    Calls prog 174 #[.agg #[int .i64 T,int .i64 S,int .i64 N,int .i64 C,int .i64 R,int .i64 F,int .u64 K,int .i64 a,int .i64 b,int .i64 d],int .u64 n,int .i64 i] w λ e w'=>e=.returned (int .i64 (slotAt N F a n i))/\Kept (λ_=>False) w w':=by
  have lt1:=hl.t1;have lt2:=hl.t2;have ls1:=hl.s1;have ls2:=hl.s2;have ln1:=hl.n1;have ln2:=hl.n2;have lc1:=hl.c1;have lc2:=hl.c2;have lr1:=hl.r1;have lr2:=hl.r2;have lf1:=hl.f1;have lf2:=hl.f2;go_enter func174,ntmps174;go_wp2_with (go_at_call 152;refine(between_no2 i 0 (F-1) (by omega) (by omega) _).mono ?_;rintro e w1 ⟨rfl,rfl⟩);go_ret;exact⟨ret_int (by unfold slotAt;rw[if_neg (by omega)]),(Kept.refl _ _).alloc _⟩

theorem slot_any(T S N C R F K a b d n i:Int)(hl:Lim T S N C R F)(hd:Reach3 a b d)(w:World) :
    Calls prog 174 #[.agg #[int .i64 T,int .i64 S,int .i64 N,int .i64 C,int .i64 R,int .i64 F,int .u64 K,int .i64 a,int .i64 b,int .i64 d],int .u64 n,int .i64 i] w λ e w'=>e=.returned (int .i64 (slotAt N F a n i))/\Kept (λ_=>False) w w':=by
  by_cases h:0<=i/\i<F
  · exact slot_yes T S N C R F K a b d n i hl hd h.1 h.2 w
  · exact(if h':i<0 then slot_no1 T S N C R F K a b d n i hl h' w else slot_no2 T S N C R F K a b d n i hl (by omega) w)


theorem config_any(T S N C R F K a b d:Int)(w:World) :
    Calls prog 133 #[.agg #[int .i64 T,int .i64 S,int .i64 N,int .i64 C,int .i64 R,int .i64 F,int .u64 K,int .i64 a,int .i64 b,int .i64 d]] w λ e w'=>e=.returned (.agg #[int .i64 T,int .i64 S,int .i64 N,int .i64 C,int .i64 R,int .i64 F,int .u64 K])/\Kept (λ_=>False) w w':=by
  go_enter func133,ntmps133;go_wp2;refine bodyPost_ret (v:=.agg #[int .i64 T,int .i64 S,int .i64 N,int .i64 C,int .i64 R,int .i64 F,int .u64 K]) (by simp[results,Tryz.results133,go_sem]) rfl ⟨rfl,((Kept.refl _ _).alloc _).alloc _⟩

theorem refA_any(T S N C R F K:Int)(hl:Lim T S N C R F)(w:World) :
    Calls prog 100 #[.agg #[int .i64 T,int .i64 S,int .i64 N,int .i64 C,int .i64 R,int .i64 F,int .u64 K]] w λ e w'=>e=.returned (int .i64 (firstNode T S))/\Kept (λ_=>False) w w':=by
  have lt1:=hl.t1;have lt2:=hl.t2;have ls1:=hl.s1;have ls2:=hl.s2;have ln1:=hl.n1;have ln2:=hl.n2;have lc1:=hl.c1;have lc2:=hl.c2;have lr1:=hl.r1;have lr2:=hl.r2;have lf1:=hl.f1;have lf2:=hl.f2;have ts:=hl.ts;have ts1:=ts.1;have ts2:=ts.2;clear ts;clear hl;go_enter func100,ntmps100;go_wp2;go_ret;exact⟨ret_int (by unfold firstNode;rfl),(Kept.refl _ _).alloc _⟩

theorem refB_any(T S N C R F K:Int)(hl:Lim T S N C R F)(w:World) :
    Calls prog 117 #[.agg #[int .i64 T,int .i64 S,int .i64 N,int .i64 C,int .i64 R,int .i64 F,int .u64 K]] w λ e w'=>e=.returned (int .i64 (firstChain T S N F))/\Kept (λ_=>False) w w':=by
  have lt1:=hl.t1;have lt2:=hl.t2;have ls1:=hl.s1;have ls2:=hl.s2;have ln1:=hl.n1;have ln2:=hl.n2;have lc1:=hl.c1;have lc2:=hl.c2;have lr1:=hl.r1;have lr2:=hl.r2;have lf1:=hl.f1;have lf2:=hl.f2;have nf:=hl.nf;have nf1:=nf.1;have nf2:=nf.2;have nf4:=nf4 N F;clear nf;have hrc:=hl.reach;have k1:=hrc.a1;have k2:=hrc.a2;have k3:=hrc.b1;have k4:=hrc.b2;have k5:=hrc.d1;have k6:=hrc.d2;clear hrc;go_enter func117,ntmps117;go_wp2;have hN0:=Blk.new w [int .i64 T,int .i64 S,int .i64 N,int .i64 C,int .i64 R,int .i64 F,int .u64 K] 25;obtain⟨x0,x1,x2,x3,x4,x5,x6⟩:=hN0.c7;have hr:w.heap.size<(w.alloc (.cells #[int .i64 T,int .i64 S,int .i64 N,int .i64 C,int .i64 R,int .i64 F,int .u64 K] 25)).heap.size:=hN0.lt;have HK:=Hd ((Kept.refl (λ_=>False) w).alloc (.cells #[int .i64 T,int .i64 S,int .i64 N,int .i64 C,int .i64 R,int .i64 F,int .u64 K] 25));clear hN0;generalize w.alloc (.cells #[int .i64 T,int .i64 S,int .i64 N,int .i64 C,int .i64 R,int .i64 F,int .u64 K] 25)=W at *;generalize w.heap.size=r at *;go_region_held3 (λ w'=>Kept (λ_=>False) W w'/\w'.cell? ⟨r,0,none⟩=some (int .i64 T)/\w'.cell? ⟨r,1,none⟩=some (int .i64 S)/\w'.cell? ⟨r,2,none⟩=some (int .i64 N)/\w'.cell? ⟨r,3,none⟩=some (int .i64 C)/\w'.cell? ⟨r,4,none⟩=some (int .i64 R)/\w'.cell? ⟨r,5,none⟩=some (int .i64 F)/\w'.cell? ⟨r,6,none⟩=some (int .u64 K))
    (first|exact⟨(Kept.refl _ _).drew,x0,x1,x2,x3,x4,x5,x6⟩|exact keep7 (by assumption) hr (by assumption)|exact keep7 (Kept.ofDrew (by assumption)) hr (by assumption))
    (first|(go_at_call 100;refine(refA_any T S N C R F K hl _).mono ?_;rintro e w9 ⟨rfl,hK9⟩))
  go_wp2;go_ret;exact⟨ret_int (by unfold firstChain at *;rw[IntWalk.i64_in (F+4) (by omega),nf4,IntWalk.i64_in (N*F+N*4) (by omega),IntWalk.i64_in _ (by omega)]),HK.o.trans hK9.ofDrew kk2⟩

theorem refC_any(T S N C R F K:Int)(hl:Lim T S N C R F)(w:World) :
    Calls prog 65 #[.agg #[int .i64 T,int .i64 S,int .i64 N,int .i64 C,int .i64 R,int .i64 F,int .u64 K]] w λ e w'=>e=.returned (int .i64 (firstRecord T S N C F))/\Kept (λ_=>False) w w':=by
  have lt1:=hl.t1;have lt2:=hl.t2;have ls1:=hl.s1;have ls2:=hl.s2;have ln1:=hl.n1;have ln2:=hl.n2;have lc1:=hl.c1;have lc2:=hl.c2;have lr1:=hl.r1;have lr2:=hl.r2;have lf1:=hl.f1;have lf2:=hl.f2;have nf:=hl.nf;have nf1:=nf.1;have nf2:=nf.2;have nf4:=nf4 N F;clear nf;have hrc:=hl.reach;have k1:=hrc.a1;have k2:=hrc.a2;have k3:=hrc.b1;have k4:=hrc.b2;have k5:=hrc.d1;have k6:=hrc.d2;clear hrc;go_enter func65,ntmps65;go_wp2;have hN0:=Blk.new w [int .i64 T,int .i64 S,int .i64 N,int .i64 C,int .i64 R,int .i64 F,int .u64 K] 25;obtain⟨x0,x1,x2,x3,x4,x5,x6⟩:=hN0.c7;have hr:w.heap.size<(w.alloc (.cells #[int .i64 T,int .i64 S,int .i64 N,int .i64 C,int .i64 R,int .i64 F,int .u64 K] 25)).heap.size:=hN0.lt;have HK:=Hd ((Kept.refl (λ_=>False) w).alloc (.cells #[int .i64 T,int .i64 S,int .i64 N,int .i64 C,int .i64 R,int .i64 F,int .u64 K] 25));clear hN0;generalize w.alloc (.cells #[int .i64 T,int .i64 S,int .i64 N,int .i64 C,int .i64 R,int .i64 F,int .u64 K] 25)=W at *;generalize w.heap.size=r at *;go_region_held3 (λ w'=>Kept (λ_=>False) W w'/\w'.cell? ⟨r,0,none⟩=some (int .i64 T)/\w'.cell? ⟨r,1,none⟩=some (int .i64 S)/\w'.cell? ⟨r,2,none⟩=some (int .i64 N)/\w'.cell? ⟨r,3,none⟩=some (int .i64 C)/\w'.cell? ⟨r,4,none⟩=some (int .i64 R)/\w'.cell? ⟨r,5,none⟩=some (int .i64 F)/\w'.cell? ⟨r,6,none⟩=some (int .u64 K))
    (first|exact⟨(Kept.refl _ _).drew,x0,x1,x2,x3,x4,x5,x6⟩|exact keep7 (by assumption) hr (by assumption)|exact keep7 (Kept.ofDrew (by assumption)) hr (by assumption))
    (first|(go_at_call 117;refine(refB_any T S N C R F K hl _).mono ?_;rintro e w9 ⟨rfl,hK9⟩))
  go_wp2;go_ret;exact⟨ret_int (by unfold firstRecord at *;rw[IntWalk.i64_in _ (by omega)]),HK.o.trans hK9.ofDrew kk2⟩

theorem refCells_any(T S N C R F K:Int)(hl:Lim T S N C R F)(w:World) :
    Calls prog 31 #[.agg #[int .i64 T,int .i64 S,int .i64 N,int .i64 C,int .i64 R,int .i64 F,int .u64 K]] w λ e w'=>e=.returned (int .i64 (allCells T S N C R F))/\Kept (λ_=>False) w w':=by
  have lt1:=hl.t1;have lt2:=hl.t2;have ls1:=hl.s1;have ls2:=hl.s2;have ln1:=hl.n1;have ln2:=hl.n2;have lc1:=hl.c1;have lc2:=hl.c2;have lr1:=hl.r1;have lr2:=hl.r2;have lf1:=hl.f1;have lf2:=hl.f2;have nf:=hl.nf;have nf1:=nf.1;have nf2:=nf.2;have nf4:=nf4 N F;clear nf;have hrc:=hl.reach;have k1:=hrc.a1;have k2:=hrc.a2;have k3:=hrc.b1;have k4:=hrc.b2;have k5:=hrc.d1;have k6:=hrc.d2;clear hrc;go_enter func31,ntmps31;go_wp2;have hN0:=Blk.new w [int .i64 T,int .i64 S,int .i64 N,int .i64 C,int .i64 R,int .i64 F,int .u64 K] 25;obtain⟨x0,x1,x2,x3,x4,x5,x6⟩:=hN0.c7;have hr:w.heap.size<(w.alloc (.cells #[int .i64 T,int .i64 S,int .i64 N,int .i64 C,int .i64 R,int .i64 F,int .u64 K] 25)).heap.size:=hN0.lt;have HK:=Hd ((Kept.refl (λ_=>False) w).alloc (.cells #[int .i64 T,int .i64 S,int .i64 N,int .i64 C,int .i64 R,int .i64 F,int .u64 K] 25));clear hN0;generalize w.alloc (.cells #[int .i64 T,int .i64 S,int .i64 N,int .i64 C,int .i64 R,int .i64 F,int .u64 K] 25)=W at *;generalize w.heap.size=r at *;go_region_held3 (λ w'=>Kept (λ_=>False) W w'/\w'.cell? ⟨r,0,none⟩=some (int .i64 T)/\w'.cell? ⟨r,1,none⟩=some (int .i64 S)/\w'.cell? ⟨r,2,none⟩=some (int .i64 N)/\w'.cell? ⟨r,3,none⟩=some (int .i64 C)/\w'.cell? ⟨r,4,none⟩=some (int .i64 R)/\w'.cell? ⟨r,5,none⟩=some (int .i64 F)/\w'.cell? ⟨r,6,none⟩=some (int .u64 K))
    (first|exact⟨(Kept.refl _ _).drew,x0,x1,x2,x3,x4,x5,x6⟩|exact keep7 (by assumption) hr (by assumption)|exact keep7 (Kept.ofDrew (by assumption)) hr (by assumption))
    (first|(go_at_call 65;refine(refC_any T S N C R F K hl _).mono ?_;rintro e w9 ⟨rfl,hK9⟩))
  go_wp2;go_ret;exact⟨ret_int (by unfold allCells;rw[IntWalk.i64_in (3*R) (by omega),IntWalk.i64_in _ (by omega),Int.mul_comm 3 R]),HK.o.trans hK9.ofDrew kk2⟩

theorem valid_yes(T S N C R F K:Int)(hl:Lim T S N C R F)(hk1:1<=K)(hk2:K<=1099511627776)(w:World) :
    Calls prog 113 #[.agg #[int .i64 T,int .i64 S,int .i64 N,int .i64 C,int .i64 R,int .i64 F,int .u64 K]] w λ e w'=>e=.returned (.bool true)/\Kept (λ_=>False) w w':=by
  have lt1:=hl.t1;have lt2:=hl.t2;have ls1:=hl.s1;have ls2:=hl.s2;have ln1:=hl.n1;have ln2:=hl.n2;have lc1:=hl.c1;have lc2:=hl.c2;have lr1:=hl.r1;have lr2:=hl.r2;have lf1:=hl.f1;have lf2:=hl.f2;go_enter func113,ntmps113;go_wp2_with (first|(go_at_call 152;with_reducible refine(between_yes _ _ _ (by omega) (by omega) _).mono ?_;rintro e w1 ⟨rfl,rfl⟩)|(go_at_call 152;with_reducible refine(between_no1 _ _ _ (by omega) _).mono ?_;rintro e w1 ⟨rfl,rfl⟩)|(go_at_call 152;with_reducible refine(between_no2 _ _ _ (by omega) (by omega) _).mono ?_;rintro e w1 ⟨rfl,rfl⟩));go_ret;exact⟨rfl,(Kept.refl _ _).alloc _⟩

theorem refNode_yes(T S N C R F K n part:Int)(hl:Lim T S N C R F)(h3:0<=part)(h4:part<F+4)(h1:1<=n)(h2:n<=N)(w:World) :
    Calls prog 66 #[.agg #[int .i64 T,int .i64 S,int .i64 N,int .i64 C,int .i64 R,int .i64 F,int .u64 K],int .u64 n,int .i64 part] w λ e w'=>e=.returned (int .i64 (nodeAt N F (firstNode T S) n part))/\Kept (λ_=>False) w w':=by
  have lt1:=hl.t1;have lt2:=hl.t2;have ls1:=hl.s1;have ls2:=hl.s2;have ln1:=hl.n1;have ln2:=hl.n2;have lc1:=hl.c1;have lc2:=hl.c2;have lr1:=hl.r1;have lr2:=hl.r2;have lf1:=hl.f1;have lf2:=hl.f2;have hrc:=hl.reach;have k1:=hrc.a1;have k2:=hrc.a2;have k3:=hrc.b1;have k4:=hrc.b2;have k5:=hrc.d1;have k6:=hrc.d2;clear hrc;have hp:=mul_bd (n-1) F 4096 32 (by omega) (by omega) (by omega) (by omega);have hp1:=hp.1;have hp2:(n-1)*F<=131072:=hp.2;clear hp;have nf4:=nf4 (n-1) F;go_enter func66,ntmps66;go_wp2;have hN0:=Blk.new w [int .i64 T,int .i64 S,int .i64 N,int .i64 C,int .i64 R,int .i64 F,int .u64 K] 25;obtain⟨x0,x1,x2,x3,x4,x5,x6⟩:=hN0.c7;have hr:w.heap.size<(w.alloc (.cells #[int .i64 T,int .i64 S,int .i64 N,int .i64 C,int .i64 R,int .i64 F,int .u64 K] 25)).heap.size:=hN0.lt;have HK:=Hd ((Kept.refl (λ_=>False) w).alloc (.cells #[int .i64 T,int .i64 S,int .i64 N,int .i64 C,int .i64 R,int .i64 F,int .u64 K] 25));clear hN0;generalize w.alloc (.cells #[int .i64 T,int .i64 S,int .i64 N,int .i64 C,int .i64 R,int .i64 F,int .u64 K] 25)=W at *;generalize w.heap.size=r at *;have e1:IntKind.u64.wrap (n-1)=n-1:=IntWalk.u64_in _ (by omega);have e2:IntKind.i64.wrap (n-1)=n-1:=IntWalk.i64_in _ (by omega);go_region_held3 (λ w'=>Kept (λ_=>False) W w'/\w'.cell? ⟨r,0,none⟩=some (int .i64 T)/\w'.cell? ⟨r,1,none⟩=some (int .i64 S)/\w'.cell? ⟨r,2,none⟩=some (int .i64 N)/\w'.cell? ⟨r,3,none⟩=some (int .i64 C)/\w'.cell? ⟨r,4,none⟩=some (int .i64 R)/\w'.cell? ⟨r,5,none⟩=some (int .i64 F)/\w'.cell? ⟨r,6,none⟩=some (int .u64 K))
    (first|exact⟨(Kept.refl _ _).drew,x0,x1,x2,x3,x4,x5,x6⟩|exact keep7 (by assumption) hr (by assumption)|exact keep7 (Kept.ofDrew (by assumption)) hr (by assumption))
    (first|(go_at_call 100;refine(refA_any T S N C R F K hl _).mono ?_;rintro e w9 ⟨rfl,hK9⟩))
  go_wp2;go_ret;exact⟨ret_int (by rw[IntWalk.i64_in (F+4) (by omega),nf4,IntWalk.i64_in ((n-1)*F+(n-1)*4) (by omega),IntWalk.i64_in (firstNode T S+_) (by omega),IntWalk.i64_in _ (by omega)];unfold nodeAt;rw[if_pos ⟨h1,h2⟩]),HK.o.trans hK9.ofDrew kk2⟩

theorem refNode_no1(T S N C R F K n part:Int)(hl:Lim T S N C R F)(h3:0<=part)(h4:part<F+4)(h1:n<1)(h0:0<=n)(w:World) :
    Calls prog 66 #[.agg #[int .i64 T,int .i64 S,int .i64 N,int .i64 C,int .i64 R,int .i64 F,int .u64 K],int .u64 n,int .i64 part] w λ e w'=>e=.returned (int .i64 (nodeAt N F (firstNode T S) n part))/\Kept (λ_=>False) w w':=by
  have lt1:=hl.t1;have lt2:=hl.t2;have ls1:=hl.s1;have ls2:=hl.s2;have ln1:=hl.n1;have ln2:=hl.n2;have lc1:=hl.c1;have lc2:=hl.c2;have lr1:=hl.r1;have lr2:=hl.r2;have lf1:=hl.f1;have lf2:=hl.f2;have HS:=Hd (show nodeAt N F (firstNode T S) n part = -1 by unfold nodeAt;rw[if_neg (by omega)]);go_enter func66,ntmps66;go_wp2;go_ret;exact⟨ret_int HS.o.symm,(Kept.refl _ _).alloc _⟩

theorem refNode_no2(T S N C R F K n part:Int)(hl:Lim T S N C R F)(h3:0<=part)(h4:part<F+4)(h1:N<n)(h0:0<=n)(w:World) :
    Calls prog 66 #[.agg #[int .i64 T,int .i64 S,int .i64 N,int .i64 C,int .i64 R,int .i64 F,int .u64 K],int .u64 n,int .i64 part] w λ e w'=>e=.returned (int .i64 (nodeAt N F (firstNode T S) n part))/\Kept (λ_=>False) w w':=by
  have lt1:=hl.t1;have lt2:=hl.t2;have ls1:=hl.s1;have ls2:=hl.s2;have ln1:=hl.n1;have ln2:=hl.n2;have lc1:=hl.c1;have lc2:=hl.c2;have lr1:=hl.r1;have lr2:=hl.r2;have lf1:=hl.f1;have lf2:=hl.f2;have HS:=Hd (show nodeAt N F (firstNode T S) n part = -1 by unfold nodeAt;rw[if_neg (by omega)]);go_enter func66,ntmps66;go_wp2;go_ret;exact⟨ret_int HS.o.symm,(Kept.refl _ _).alloc _⟩

theorem refNode_any(T S N C R F K n part:Int)(hl:Lim T S N C R F)(h3:0<=part)(h4:part<F+4)(h0:0<=n)(w:World) :
    Calls prog 66 #[.agg #[int .i64 T,int .i64 S,int .i64 N,int .i64 C,int .i64 R,int .i64 F,int .u64 K],int .u64 n,int .i64 part] w λ e w'=>e=.returned (int .i64 (nodeAt N F (firstNode T S) n part))/\Kept (λ_=>False) w w':=by
  by_cases h:1<=n/\n<=N
  · exact refNode_yes T S N C R F K n part hl h3 h4 h.1 h.2 w
  · exact(if h':n<1 then refNode_no1 T S N C R F K n part hl h3 h4 h' h0 w else refNode_no2 T S N C R F K n part hl h3 h4 (by omega) h0 w)
end

section
open Go.RowKit Go.Deep

attribute [local go_sem ↓] Go.wp_at_zero Go.wp_at_succ

theorem new_yes(T S N C R F K:Int)(hl:Lim T S N C R F)(hk1:1<=K)(hk2:K<=1099511627776)(w:World) :
    Calls prog 59 #[.agg #[int .i64 T,int .i64 S,int .i64 N,int .i64 C,int .i64 R,int .i64 F,int .u64 K]] w λ e w'=>e=.returned (.tuple #[.agg #[int .i64 T,int .i64 S,int .i64 N,int .i64 C,int .i64 R,int .i64 F,int .u64 K,int .i64 (firstNode T S),int .i64 (firstChain T S N F),int .i64 (firstRecord T S N C F)],int .i64 0])/\Kept (λ_=>False) w w':=by
  have lt1:=hl.t1;have lt2:=hl.t2;have ls1:=hl.s1;have ls2:=hl.s2;have ln1:=hl.n1;have ln2:=hl.n2;have lc1:=hl.c1;have lc2:=hl.c2;have lr1:=hl.r1;have lr2:=hl.r2;have lf1:=hl.f1;have lf2:=hl.f2;have ts:=hl.ts;have ts1:=ts.1;have ts2:=ts.2;clear ts;have nf:=hl.nf;have nf1:=nf.1;have nf2:=nf.2;have nf4:=nf4 N F;clear nf;clear nf4;go_enter func59,ntmps59;go_wp2_with fail;refine(valid_yes T S N C R F K hl hk1 hk2 _).mono ?_;rintro e w1 ⟨rfl,hK1⟩;have hC1:Blk w1 w.heap.size 25 [int .i64 T,int .i64 S,int .i64 N,int .i64 C,int .i64 R,int .i64 F,int .u64 K]:=hK1.blk ((Blk.new w [int .i64 T,int .i64 S,int .i64 N,int .i64 C,int .i64 R,int .i64 F,int .u64 K] 25).alloc _) id;have hQ1:Blk w1 (w.heap.size+1) 28 [int .i64 0,int .i64 0,int .i64 0,int .i64 0,int .i64 0,int .i64 0,int .u64 0,int .i64 0,int .i64 0,int .i64 0]:=hK1.blk (by have:=Blk.new (w.alloc (.cells #[int .i64 T,int .i64 S,int .i64 N,int .i64 C,int .i64 R,int .i64 F,int .u64 K] 25)) [int .i64 0,int .i64 0,int .i64 0,int .i64 0,int .i64 0,int .i64 0,int .u64 0,int .i64 0,int .i64 0,int .i64 0] 28;rwa [nblk_alloc] at this) id;have HK1:=Hd (((Kept.refl (λ_=>False) w).alloc _).alloc _ |>.trans hK1 kk2);have hz:=hK1.size;simp only[World.size_alloc] at hz;have hz0:w.heap.size<w1.heap.size:=by omega
  have hz1:w.heap.size+1<w1.heap.size:=by omega
  clear hK1;obtain⟨x0,x1,x2,x3,x4,x5,x6⟩:=hC1.c7;have HC1:=Hd (hC1.alloc (.cells #[int .i64 T,int .i64 S,int .i64 N,int .i64 C,int .i64 R,int .i64 F,int .u64 K,int .i64 (8+T*S),int .i64 0,int .i64 0] 28));have HQ1:=Hd (hQ1.alloc (.cells #[int .i64 T,int .i64 S,int .i64 N,int .i64 C,int .i64 R,int .i64 F,int .u64 K,int .i64 (8+T*S),int .i64 0,int .i64 0] 28));have HN1:=Hd (Blk.new w1 [int .i64 T,int .i64 S,int .i64 N,int .i64 C,int .i64 R,int .i64 F,int .u64 K,int .i64 (8+T*S),int .i64 0,int .i64 0] 28);clear hC1 hQ1;go_wp2_with fail;have hK2:=HK1.o.alloc (.cells #[int .i64 T,int .i64 S,int .i64 N,int .i64 C,int .i64 R,int .i64 F,int .u64 K,int .i64 (8+T*S),int .i64 0,int .i64 0] 28);have hs:w1.heap.size<(w1.alloc (.cells #[int .i64 T,int .i64 S,int .i64 N,int .i64 C,int .i64 R,int .i64 F,int .u64 K,int .i64 (8+T*S),int .i64 0,int .i64 0] 28)).heap.size:=HN1.o.lt;clear x0 x1 x2 x3 x4 x5 x6;have HK2:=Hd hK2;clear hK2 HK1;generalize w1.alloc (.cells #[int .i64 T,int .i64 S,int .i64 N,int .i64 C,int .i64 R,int .i64 F,int .u64 K,int .i64 (8+T*S),int .i64 0,int .i64 0] 28)=W at *;generalize w1.heap.size=s at *;generalize hrr:w.heap.size=r at *;have HRR:=Hd hrr;clear hrr;obtain⟨x0,x1,x2,x3,x4,x5,x6⟩:=HC1.o.c7;obtain⟨y0,y1,y2,y3,y4,y5,y6,y7,y8,y9⟩:=HN1.o.c10;have yf8:=HN1.o.frozen 8;have hr:r<W.heap.size:=by omega
  go_region_with ((go_at_call 114;refine(nodeCells_any T S N C R F K (8+T*S) 0 0 N (by omega) (by omega) nf1 (by omega) _).mono ?_;rintro e w9 ⟨rfl,hK9⟩;have hN9:=hK9.ofDrew.blk HN1.o id;have z7:=hN9.k 7 rfl;have z8:=hN9.k 8 rfl;have z8f:=hN9.frozen 8))
  all_goals
    rw[IntWalk.i64_in (8+T*S+(N*F+N*4)) (by omega)];have hK3:=(HK2.o.trans hK9.ofDrew kk2).setNew (b:=s) (by have:=HRR.o;omega) 8 (int .i64 (8+T*S+(N*F+N*4)));have hN3:=hN9.set 8 (int .i64 (8+T*S+(N*F+N*4)));have hC3:=(hK9.ofDrew.blk HC1.o id).other (a:=⟨s,8,none⟩) (by simp;omega) (int .i64 (8+T*S+(N*F+N*4)));have hQ3:=(hK9.ofDrew.blk HQ1.o id).other (a:=⟨s,8,none⟩) (by simp;omega) (int .i64 (8+T*S+(N*F+N*4)));clear hK9 hN9 z7 z8 z8f;clear x0 x1 x2 x3 x4 x5 x6;clear y0 y1 y2 y3 y4 y5 y6 y7 y8 y9 yf8;have HK3:=Hd hK3;have HN3:=Hd hN3;have HQ3:=Hd hQ3;clear hK3 hN3 hQ3;generalize w9.setCell ⟨s,8,none⟩ (int .i64 (8+T*S+(N*F+N*4)))=W3 at *;have x3:=hC3.k 3 rfl;clear hC3;obtain⟨y0,y1,y2,y3,y4,y5,y6,y7,y8,y9⟩:=HN3.o.c10;have yf9:=HN3.o.frozen 9;obtain⟨q0,q1,q2,q3,q4,q5,q6,q7,q8,q9⟩:=HQ3.o.c10;have qf0:=HQ3.o.frozen 0;have qf1:=HQ3.o.frozen 1;have qf2:=HQ3.o.frozen 2;have qf3:=HQ3.o.frozen 3;have qf4:=HQ3.o.frozen 4;have qf5:=HQ3.o.frozen 5;have qf6:=HQ3.o.frozen 6;have qf7:=HQ3.o.frozen 7;have qf8:=HQ3.o.frozen 8;have qf9:=HQ3.o.frozen 9;have hsq:¬ s=r+1:=by omega
    have hqs:¬ r+1=s:=by omega
    go_wp2;refine bodyPost_ret (v:=.tuple #[.agg #[int .i64 T,int .i64 S,int .i64 N,int .i64 C,int .i64 R,int .i64 F,int .u64 K,int .i64 (8+T*S),int .i64 (8+T*S+(N*F+N*4)),int .i64 (8+T*S+(N*F+N*4)+C)],int .i64 0]) ?_ rfl ⟨rfl,?_⟩
    · have hE:=(((((((((((HQ3.o.other (a:=⟨s,9,none⟩) hqs (int .i64 (8+T*S+(N*F+N*4)+C))).set 0 (int .i64 T)).set 1 (int .i64 S)).set 2 (int .i64 N)).set 3 (int .i64 C)).set 4 (int .i64 R)).set 5 (int .i64 F)).set 6 (int .u64 K)).set 7 (int .i64 (8+T*S))).set 8 (int .i64 (8+T*S+(N*F+N*4)))).set 9 (int .i64 (8+T*S+(N*F+N*4)+C)))
      clear y0 y1 y2 y3 y4 y5 y6 y7 y8 y9 yf9;clear q0 q1 q2 q3 q4 q5 q6 q7 q8 q9 qf0 qf1 qf2 qf3 qf4 qf5 qf6 qf7 qf8 qf9;obtain⟨q0,q1,q2,q3,q4,q5,q6,q7,q8,q9⟩:=hE.c10;clear hE HK3 HN3 HQ3 x3;simp[results,Tryz.results59,go_sem,q0,q1,q2,q3,q4,q5,q6,q7,q8,q9]
    · have hb1:w.heap.size<=s:=by have:=HRR.o;omega
      have hb2:w.heap.size<=r+1:=by have:=HRR.o;omega
      exact((((((((((HK3.o.setNew hb1 _ _).setNew hb2 _ _).setNew hb2 _ _).setNew hb2 _ _).setNew hb2 _ _).setNew hb2 _ _).setNew hb2 _ _).setNew hb2 _ _).setNew hb2 _ _).setNew hb2 _ _).setNew hb2 _ _

def startCells(T S N C R F:Int):List Cel:=putAt (putAt (putAt (List.replicate (allCells T S N C R F).toNat cel0) 0 (1,⟨#[]⟩,0)) 4 (1,⟨#[]⟩,0)) (nodeAt N F (firstNode T S) 1 2) (0,⟨#[]⟩,1)

def StartOk(T S N C R F K:Int)(w:World)(e:Ending)(w':World):Prop :=
  ∃ b g:Nat,e=.returned (.tuple #[.agg #[int .i64 T,int .i64 S,int .i64 N,int .i64 C,int .i64 R,int .i64 F,int .u64 K,int .i64 (firstNode T S),int .i64 (firstChain T S N F),int .i64 (firstRecord T S N C F)],.pointer (some ⟨b,0,none⟩),int .i64 0])/\Mem w' b g (startCells T S N C R F) 0/\w.heap.size<=b/\w.heap.size<=g/\Kept (λ_=>False) w w'

theorem allCells_bd{T S N C R F:Int}(hl:Lim T S N C R F):1<=allCells T S N C R F/\allCells T S N C R F<=1048576:=by
  have:=hl.reach;have a1:=this.d1;have:=hl.nf;have:=hl.ts;have:=hl.n1;have:=hl.n2;have:=hl.c1;have:=hl.c2;have:=hl.r1;have:=hl.r2;unfold allCells firstRecord firstChain firstNode at *;omega

theorem Mem.farq{w:World}{b g:Nat}{l:List Cel}{k:Nat}(h:Mem w b g l k){q:Nat}(hq:¬ Own b g q)(i:Nat)(v:Value):Mem (w.setCell ⟨q,i,none⟩ v) b g l k:=by
  have h1:b≠q:=λ e=>hq (.inl e.symm);have h2:g≠q:=λ e=>hq (.inr e.symm);exact⟨h.obj.other h1 _,h.row.other h2 _,h.ne⟩

theorem start_yes(T S N C R F K:Int)(hl:Lim T S N C R F)(hk1:1<=K)(hk2:K<=1099511627776)(w:World) :
    Calls prog 29 #[.agg #[int .i64 T,int .i64 S,int .i64 N,int .i64 C,int .i64 R,int .i64 F,int .u64 K]] w (StartOk T S N C R F K w):=by
  go_enter func29,ntmps29;go_wp2_with fail;refine(new_yes T S N C R F K hl hk1 hk2 _).mono ?_;rintro e w1 ⟨rfl,hK1⟩;have hQ:Blk w1 (w.heap.size+1) 28 [int .i64 0,int .i64 0,int .i64 0,int .i64 0,int .i64 0,int .i64 0,int .u64 0,int .i64 0,int .i64 0,int .i64 0]:=hK1.blk (by have:=Blk.new (w.alloc (.cells #[int .i64 T,int .i64 S,int .i64 N,int .i64 C,int .i64 R,int .i64 F,int .u64 K] 25)) [int .i64 0,int .i64 0,int .i64 0,int .i64 0,int .i64 0,int .i64 0,int .u64 0,int .i64 0,int .i64 0,int .i64 0] 28;rwa [nblk_alloc] at this) id;have HK:=Hd (((Kept.refl (λ_=>False) w).alloc _).alloc _ |>.trans hK1 kk2);have hz:=hK1.size;simp only[World.size_alloc] at hz;have hz1:w.heap.size+1<w1.heap.size:=by omega
  clear hK1;have hrc:=hl.reach;obtain⟨fa,hfa⟩:∃ x,x=firstNode T S:=⟨_,rfl⟩;obtain⟨fb,hfb⟩:∃ x,x=firstChain T S N F:=⟨_,rfl⟩;obtain⟨fd,hfd⟩:∃ x,x=firstRecord T S N C F:=⟨_,rfl⟩;rw[←hfa, ←hfb, ←hfd] at hrc;have ⟨ac1,ac2⟩:=allCells_bd hl;have hac:fd+R*3=((allCells T S N C R F).toNat:Int):=by rw[hfd,Int.toNat_of_nonneg (by omega)];rfl
  obtain⟨M,hM⟩:∃ M:Nat,M=(allCells T S N C R F).toNat:=⟨_,rfl⟩;rw[←hM] at hac;have hM1:1<=M:=by omega
  have hM2:M<=1048576:=by omega
  rw[←hfa, ←hfb, ←hfd];have HFA:=Hd hfa;have HFB:=Hd hfb;have HFD:=Hd hfd;have HM0:=Hd hM;have HAC:=Hd hac;clear hfa hfb hfd hM hac ac1 ac2;have HQ:=Hd hQ;clear hQ;go_wp2_with fail;replace HQ:=Hd (HQ.o.alloc (.cells #[int .i64 T,int .i64 S,int .i64 N,int .i64 C,int .i64 R,int .i64 F,int .u64 K,int .i64 fa,int .i64 fb,int .i64 fd] 28));have HL:=Hd (Blk.new w1 [int .i64 T,int .i64 S,int .i64 N,int .i64 C,int .i64 R,int .i64 F,int .u64 K,int .i64 fa,int .i64 fb,int .i64 fd] 28);replace HK:=Hd (HK.o.alloc (.cells #[int .i64 T,int .i64 S,int .i64 N,int .i64 C,int .i64 R,int .i64 F,int .u64 K,int .i64 fa,int .i64 fb,int .i64 fd] 28));generalize w1.alloc (.cells #[int .i64 T,int .i64 S,int .i64 N,int .i64 C,int .i64 R,int .i64 F,int .u64 K,int .i64 fa,int .i64 fb,int .i64 fd] 28)=W1 at *;generalize hss:w1.heap.size=s at *;have HSS:=Hd hss;clear hss;generalize hqq:w.heap.size+1=q at *;have HQQ:=Hd hqq;clear hqq;refine(cells_of T S N C R F K fa fb fd hl hrc _).mono ?_;rintro e w2 ⟨rfl,hk2⟩;have hB:Blk w2 s 28 [int .i64 T,int .i64 S,int .i64 N,int .i64 C,int .i64 R,int .i64 F,int .u64 K,int .i64 fa,int .i64 fb,int .i64 fd]:=hk2.blk HL.o id;have hB2:Blk w2 q 28 [int .i64 0,int .i64 0,int .i64 0,int .i64 0,int .i64 0,int .i64 0,int .u64 0,int .i64 0,int .i64 0,int .i64 0]:=hk2.blk HQ.o id;replace HL:=Hd hB;replace HQ:=Hd hB2;clear hB hB2;replace HK:Hid (Kept (λ_=>False) w w2):=Hd (HK.o.trans hk2 kk2);clear hk2;go_wp2_with fail;refine(new_of (fd+R*3) M _ HAC.o hM1 hM2).mono ?_;rintro e w3 ⟨rfl,hm,hk3⟩;have hl2:=HL.o.lt;have hq2:=HQ.o.lt;have hw2:=HK.o.size;have hB:Blk w3 s 28 [int .i64 T,int .i64 S,int .i64 N,int .i64 C,int .i64 R,int .i64 F,int .u64 K,int .i64 fa,int .i64 fb,int .i64 fd]:=hk3.blk HL.o id;have hB2:Blk w3 q 28 [int .i64 0,int .i64 0,int .i64 0,int .i64 0,int .i64 0,int .i64 0,int .u64 0,int .i64 0,int .i64 0,int .i64 0]:=hk3.blk HQ.o id;replace HL:=Hd hB;replace HQ:=Hd hB2;clear hB hB2;replace HK:Hid (Kept (λ_=>False) w w3):=Hd (HK.o.trans hk3 kk2);clear hk3;generalize hbb:w2.heap.size+1=b at *;have hgb:w2.heap.size<b:=by omega
  generalize w2.heap.size=g at *;clear hbb;have HNS:Hid (¬ Own b g s):=Hd (by unfold Own;omega);have HNQ:Hid (¬ Own b g q):=Hd (by unfold Own;omega);have HNW:Hid (∀ i,i<w.heap.size->Own b g i->False):=Hd (by intro i h1 h2;unfold Own at h2;omega);have HBG:Hid (w.heap.size<=b/\w.heap.size<=g):=Hd (by omega);have HM:=Hd hm;clear hm hl2 hq2 hw2 hgb;obtain⟨x0,x1,x2,x3,x4,x5,x6,x7,x8,x9⟩:=HL.o.c10;go_wp2_with fail;refine(root_any T S N C R F K fa fb fd _).mono ?_;rintro e w4 ⟨rfl,hk⟩;have hB:Blk w4 s 28 [int .i64 T,int .i64 S,int .i64 N,int .i64 C,int .i64 R,int .i64 F,int .u64 K,int .i64 fa,int .i64 fb,int .i64 fd]:=hk.blk HL.o id;have hB2:Blk w4 q 28 [int .i64 0,int .i64 0,int .i64 0,int .i64 0,int .i64 0,int .i64 0,int .u64 0,int .i64 0,int .i64 0,int .i64 0]:=hk.blk HQ.o id;replace HL:=Hd hB;replace HQ:=Hd hB2;clear hB hB2;replace HK:Hid (Kept (λ_=>False) w w4):=Hd (HK.o.trans hk kk2);replace HM:=Hd (HM.o.kept hk id id);clear hk;clear x0 x1 x2 x3 x4 x5 x6 x7 x8 x9;go_wp2_with fail;refine(poke_any b g _ 0 0 1 0 ⟨#[]⟩ _ HM.o).mono ?_;rintro e w5 ⟨rfl,hm,hk⟩;have hB:Blk w5 s 28 [int .i64 T,int .i64 S,int .i64 N,int .i64 C,int .i64 R,int .i64 F,int .u64 K,int .i64 fa,int .i64 fb,int .i64 fd]:=hk.blk HL.o HNS.o;have hB2:Blk w5 q 28 [int .i64 0,int .i64 0,int .i64 0,int .i64 0,int .i64 0,int .i64 0,int .u64 0,int .i64 0,int .i64 0,int .i64 0]:=hk.blk HQ.o HNQ.o;replace HL:=Hd hB;replace HQ:=Hd hB2;clear hB hB2;replace HK:Hid (Kept (λ_=>False) w w5):=Hd (HK.o.trans hk HNW.o);replace HM:=Hd hm;clear hk hm;obtain⟨x0,x1,x2,x3,x4,x5,x6,x7,x8,x9⟩:=HL.o.c10;go_wp2_with fail;refine(nodes_any T S N C R F K fa fb fd _).mono ?_;rintro e w6 ⟨rfl,hk⟩;have hB:Blk w6 s 28 [int .i64 T,int .i64 S,int .i64 N,int .i64 C,int .i64 R,int .i64 F,int .u64 K,int .i64 fa,int .i64 fb,int .i64 fd]:=hk.blk HL.o id;have hB2:Blk w6 q 28 [int .i64 0,int .i64 0,int .i64 0,int .i64 0,int .i64 0,int .i64 0,int .u64 0,int .i64 0,int .i64 0,int .i64 0]:=hk.blk HQ.o id;replace HL:=Hd hB;replace HQ:=Hd hB2;clear hB hB2;replace HK:Hid (Kept (λ_=>False) w w6):=Hd (HK.o.trans hk kk2);replace HM:=Hd (HM.o.kept hk id id);clear hk;clear x0 x1 x2 x3 x4 x5 x6 x7 x8 x9;go_wp2_with fail;refine(poke_any b g _ 0 4 1 0 ⟨#[]⟩ _ HM.o).mono ?_;rintro e w7 ⟨rfl,hm,hk⟩;have hB:Blk w7 s 28 [int .i64 T,int .i64 S,int .i64 N,int .i64 C,int .i64 R,int .i64 F,int .u64 K,int .i64 fa,int .i64 fb,int .i64 fd]:=hk.blk HL.o HNS.o;have hB2:Blk w7 q 28 [int .i64 0,int .i64 0,int .i64 0,int .i64 0,int .i64 0,int .i64 0,int .u64 0,int .i64 0,int .i64 0,int .i64 0]:=hk.blk HQ.o HNQ.o;replace HL:=Hd hB;replace HQ:=Hd hB2;clear hB hB2;replace HK:Hid (Kept (λ_=>False) w w7):=Hd (HK.o.trans hk HNW.o);replace HM:=Hd hm;clear hk hm;obtain⟨x0,x1,x2,x3,x4,x5,x6,x7,x8,x9⟩:=HL.o.c10;go_wp2_with fail;refine(high_any T S N C R F K fa fb fd 1 hl hrc _).mono ?_;rintro e w8 ⟨rfl,hk⟩;have hB:Blk w8 s 28 [int .i64 T,int .i64 S,int .i64 N,int .i64 C,int .i64 R,int .i64 F,int .u64 K,int .i64 fa,int .i64 fb,int .i64 fd]:=hk.blk HL.o id;have hB2:Blk w8 q 28 [int .i64 0,int .i64 0,int .i64 0,int .i64 0,int .i64 0,int .i64 0,int .u64 0,int .i64 0,int .i64 0,int .i64 0]:=hk.blk HQ.o id;replace HL:=Hd hB;replace HQ:=Hd hB2;clear hB hB2;replace HK:Hid (Kept (λ_=>False) w w8):=Hd (HK.o.trans hk kk2);replace HM:=Hd (HM.o.kept hk id id);clear hk;clear x0 x1 x2 x3 x4 x5 x6 x7 x8 x9;go_wp2_with fail;refine(poke_any b g _ 0 (nodeAt N F fa 1 2) 0 1 ⟨#[]⟩ _ HM.o).mono ?_;rintro e w9 ⟨rfl,hm,hk⟩;have hB:Blk w9 s 28 [int .i64 T,int .i64 S,int .i64 N,int .i64 C,int .i64 R,int .i64 F,int .u64 K,int .i64 fa,int .i64 fb,int .i64 fd]:=hk.blk HL.o HNS.o;have hB2:Blk w9 q 28 [int .i64 0,int .i64 0,int .i64 0,int .i64 0,int .i64 0,int .i64 0,int .u64 0,int .i64 0,int .i64 0,int .i64 0]:=hk.blk HQ.o HNQ.o;replace HL:=Hd hB;replace HQ:=Hd hB2;clear hB hB2;replace HK:Hid (Kept (λ_=>False) w w9):=Hd (HK.o.trans hk HNW.o);replace HM:=Hd hm;clear hk hm;obtain⟨x0,x1,x2,x3,x4,x5,x6,x7,x8,x9⟩:=HL.o.c10;obtain⟨q0,q1,q2,q3,q4,q5,q6,q7,q8,q9⟩:=HQ.o.c10;have qf0:=HQ.o.frozen 0;have qf1:=HQ.o.frozen 1;have qf2:=HQ.o.frozen 2;have qf3:=HQ.o.frozen 3;have qf4:=HQ.o.frozen 4;have qf5:=HQ.o.frozen 5;have qf6:=HQ.o.frozen 6;have qf7:=HQ.o.frozen 7;have qf8:=HQ.o.frozen 8;have qf9:=HQ.o.frozen 9;go_wp2;refine bodyPost_ret (v:=.tuple #[.agg #[int .i64 T,int .i64 S,int .i64 N,int .i64 C,int .i64 R,int .i64 F,int .u64 K,int .i64 fa,int .i64 fb,int .i64 fd],.pointer (some ⟨b,0,none⟩),int .i64 0]) ?_ rfl ?_
  · have hE:=((((((((((HQ.o.set 0 (int .i64 T)).set 1 (int .i64 S)).set 2 (int .i64 N)).set 3 (int .i64 C)).set 4 (int .i64 R)).set 5 (int .i64 F)).set 6 (int .u64 K)).set 7 (int .i64 fa)).set 8 (int .i64 fb)).set 9 (int .i64 fd))
    clear q0 q1 q2 q3 q4 q5 q6 q7 q8 q9 qf0 qf1 qf2 qf3 qf4 qf5 qf6 qf7 qf8 qf9;clear x0 x1 x2 x3 x4 x5 x6 x7 x8 x9;obtain⟨q0,q1,q2,q3,q4,q5,q6,q7,q8,q9⟩:=hE.c10;clear hE HQ HK HM HL;simp[results,Tryz.results29,go_sem,q0,q1,q2,q3,q4,q5,q6,q7,q8,q9]
  · have hb:w.heap.size<=q:=by have:=HQQ.o;omega
    refine⟨b,g,?_,?_,HBG.o.1,HBG.o.2,?_⟩
    · rw[←HFA.o, ←HFB.o, ←HFD.o]
    · unfold startCells
      rw[←HM0.o, ←HFA.o];exact(((((((((HM.o.farq HNQ.o _ _).farq HNQ.o _ _).farq HNQ.o _ _).farq HNQ.o _ _).farq HNQ.o _ _).farq HNQ.o _ _).farq HNQ.o _ _).farq HNQ.o _ _).farq HNQ.o _ _).farq HNQ.o _ _
    · exact(((((((((HK.o.setNew hb _ _).setNew hb _ _).setNew hb _ _).setNew hb _ _).setNew hb _ _).setNew hb _ _).setNew hb _ _).setNew hb _ _).setNew hb _ _).setNew hb _ _
end

section
open Go.RowKit Go.Deep

theorem startCells_length(T S N C R F:Int)(hl:Lim T S N C R F):((startCells T S N C R F).length:Int)=allCells T S N C R F:=by
  have:=allCells_bd hl;unfold startCells;rw[putAt_length,putAt_length,putAt_length,List.length_replicate];omega

theorem cells_to(b g:Nat)(l:List Cel)(k:Nat)(v:Int)(w:World)(h:Mem w b g l k)(hv:(l.length:Int)=v) :
    Calls prog 30 #[.pointer (some ⟨b,0,none⟩)] w λ e w'=>e=.returned (int .i64 v)/\w=w':=by
  subst hv;exact cells_any b g l k w h

theorem kitMemory_yes(T S N C R F K:Int)(hl:Lim T S N C R F)(hk1:1<=K)(hk2:K<=1099511627776)(w:World) :
    Calls prog 8 #[.agg #[int .i64 T,int .i64 S,int .i64 N,int .i64 C,int .i64 R,int .i64 F,int .u64 K]] w λ e w'=>∃ b g:Nat,e=.returned (.tuple #[.agg #[int .i64 T,int .i64 S,int .i64 N,int .i64 C,int .i64 R,int .i64 F,int .u64 K,int .i64 (firstNode T S),int .i64 (firstChain T S N F),int .i64 (firstRecord T S N C F)],.pointer (some ⟨b,0,none⟩)])/\Mem w' b g (startCells T S N C R F) 0/\w.heap.size<=b/\w.heap.size<=g/\Kept (λ_=>False) w w':=by
  go_enter func8,ntmps8;go_wp2_with fail;refine(start_yes T S N C R F K hl hk1 hk2 _).mono ?_;intro e w1 hst;obtain⟨b,g,rfl,hM1,hb1,hg1,hK1⟩:=hst;have hC:Blk w1 w.heap.size 25 [int .i64 T,int .i64 S,int .i64 N,int .i64 C,int .i64 R,int .i64 F,int .u64 K]:=hK1.blk ((Blk.new w [int .i64 T,int .i64 S,int .i64 N,int .i64 C,int .i64 R,int .i64 F,int .u64 K] 25).alloc _) id;have hQ:Blk w1 (w.heap.size+1) 28 [int .i64 0,int .i64 0,int .i64 0,int .i64 0,int .i64 0,int .i64 0,int .u64 0,int .i64 0,int .i64 0,int .i64 0]:=hK1.blk (by have:=Blk.new (w.alloc (.cells #[int .i64 T,int .i64 S,int .i64 N,int .i64 C,int .i64 R,int .i64 F,int .u64 K] 25)) [int .i64 0,int .i64 0,int .i64 0,int .i64 0,int .i64 0,int .i64 0,int .u64 0,int .i64 0,int .i64 0,int .i64 0] 28;rwa [nblk_alloc] at this) id;have hK:=((Kept.refl (λ_=>False) w).alloc (.cells #[int .i64 T,int .i64 S,int .i64 N,int .i64 C,int .i64 R,int .i64 F,int .u64 K] 25)).alloc (.cells #[int .i64 0,int .i64 0,int .i64 0,int .i64 0,int .i64 0,int .i64 0,int .u64 0,int .i64 0,int .i64 0,int .i64 0] 28) |>.trans hK1 kk2
  simp only[World.size_alloc] at hb1 hg1;have hz:=hK1.size;simp only[World.size_alloc] at hz;have hlen:=startCells_length T S N C R F hl;obtain⟨fa,hfa⟩:∃ x,x=firstNode T S:=⟨_,rfl⟩;obtain⟨fb,hfb⟩:∃ x,x=firstChain T S N F:=⟨_,rfl⟩;obtain⟨fd,hfd⟩:∃ x,x=firstRecord T S N C F:=⟨_,rfl⟩;rw[←hfa, ←hfb, ←hfd];have hob:¬ Own b g (w.heap.size+1):=by unfold Own;omega
  have HOB:=Hd hob;have HB:=Hd (show w.heap.size<=b/\w.heap.size<=g by omega);have HLEN:=Hd hlen;have HC:=Hd hC;have HQ:=Hd hQ;have HM:=Hd hM1;have HK:=Hd hK;have hz0:w.heap.size<w1.heap.size:=by omega
  have HFA:=Hd hfa;have HFB:=Hd hfb;have HFD:=Hd hfd;clear hfa hfb hfd hob hlen hC hQ hM1 hK hb1 hg1 hK1 hz;go_wp2_with fail;have HL:=Hd (Blk.new w1 [int .i64 T,int .i64 S,int .i64 N,int .i64 C,int .i64 R,int .i64 F,int .u64 K,int .i64 fa,int .i64 fb,int .i64 fd] 28);replace HC:=Hd (HC.o.alloc (.cells #[int .i64 T,int .i64 S,int .i64 N,int .i64 C,int .i64 R,int .i64 F,int .u64 K,int .i64 fa,int .i64 fb,int .i64 fd] 28));replace HQ:=Hd (HQ.o.alloc (.cells #[int .i64 T,int .i64 S,int .i64 N,int .i64 C,int .i64 R,int .i64 F,int .u64 K,int .i64 fa,int .i64 fb,int .i64 fd] 28));replace HM:=Hd (HM.o.alloc (.cells #[int .i64 T,int .i64 S,int .i64 N,int .i64 C,int .i64 R,int .i64 F,int .u64 K,int .i64 fa,int .i64 fb,int .i64 fd] 28));replace HK:=Hd (HK.o.alloc (.cells #[int .i64 T,int .i64 S,int .i64 N,int .i64 C,int .i64 R,int .i64 F,int .u64 K,int .i64 fa,int .i64 fb,int .i64 fd] 28));have hr:w.heap.size<(w1.alloc (.cells #[int .i64 T,int .i64 S,int .i64 N,int .i64 C,int .i64 R,int .i64 F,int .u64 K,int .i64 fa,int .i64 fb,int .i64 fd] 28)).heap.size:=HC.o.lt;generalize w1.alloc (.cells #[int .i64 T,int .i64 S,int .i64 N,int .i64 C,int .i64 R,int .i64 F,int .u64 K,int .i64 fa,int .i64 fb,int .i64 fd] 28)=W at *;generalize hss:w1.heap.size=s at *;clear hss;generalize hqq:w.heap.size+1=q at *;have HQQ:=Hd hqq;clear hqq;generalize hrr:w.heap.size=r at *;have HRR:=Hd hrr;clear hrr;obtain⟨x0,x1,x2,x3,x4,x5,x6⟩:=HC.o.c7;go_region_held3 (λ w'=>Kept (λ_=>False) W w'/\w'.cell? ⟨r,0,none⟩=some (int .i64 T)/\w'.cell? ⟨r,1,none⟩=some (int .i64 S)/\w'.cell? ⟨r,2,none⟩=some (int .i64 N)/\w'.cell? ⟨r,3,none⟩=some (int .i64 C)/\w'.cell? ⟨r,4,none⟩=some (int .i64 R)/\w'.cell? ⟨r,5,none⟩=some (int .i64 F)/\w'.cell? ⟨r,6,none⟩=some (int .u64 K))
    (first|exact⟨(Kept.refl _ _).drew,x0,x1,x2,x3,x4,x5,x6⟩|exact keep7 (by assumption) hr (by assumption)|exact keep7 (Kept.ofDrew (by assumption)) hr (by assumption))
    (first | (go_at_call 30; refine (cells_to b g _ 0 _ _ (by first | exact HM.o | exact HM.o.drew) HLEN.o).mono ?_; rintro e w8 ⟨rfl, rfl⟩)
           | (go_at_call 31;refine(refCells_any T S N C R F K hl _).mono ?_;rintro e w9 ⟨rfl,hK9⟩))
  replace HL:=Hd (hK9.ofDrew.blk HL.o id);replace HQ:=Hd (hK9.ofDrew.blk HQ.o id);replace HM:=Hd (HM.o.kept hK9.ofDrew id id);replace HK:=Hd (HK.o.trans hK9.ofDrew kk2);clear hK9 x0 x1 x2 x3 x4 x5 x6 HC;obtain⟨x0,x1,x2,x3,x4,x5,x6,x7,x8,x9⟩:=HL.o.c10;obtain⟨q0,q1,q2,q3,q4,q5,q6,q7,q8,q9⟩:=HQ.o.c10;have qf0:=HQ.o.frozen 0;have qf1:=HQ.o.frozen 1;have qf2:=HQ.o.frozen 2;have qf3:=HQ.o.frozen 3;have qf4:=HQ.o.frozen 4;have qf5:=HQ.o.frozen 5;have qf6:=HQ.o.frozen 6;have qf7:=HQ.o.frozen 7;have qf8:=HQ.o.frozen 8;have qf9:=HQ.o.frozen 9;go_wp2;refine bodyPost_ret (v:=.tuple #[.agg #[int .i64 T,int .i64 S,int .i64 N,int .i64 C,int .i64 R,int .i64 F,int .u64 K,int .i64 fa,int .i64 fb,int .i64 fd],.pointer (some ⟨b,0,none⟩)]) ?_ rfl ?_
  · have hE:=((((((((((HQ.o.set 0 (int .i64 T)).set 1 (int .i64 S)).set 2 (int .i64 N)).set 3 (int .i64 C)).set 4 (int .i64 R)).set 5 (int .i64 F)).set 6 (int .u64 K)).set 7 (int .i64 fa)).set 8 (int .i64 fb)).set 9 (int .i64 fd))
    clear q0 q1 q2 q3 q4 q5 q6 q7 q8 q9 qf0 qf1 qf2 qf3 qf4 qf5 qf6 qf7 qf8 qf9;clear x0 x1 x2 x3 x4 x5 x6 x7 x8 x9;obtain⟨q0,q1,q2,q3,q4,q5,q6,q7,q8,q9⟩:=hE.c10;clear hE HQ HK HM HL;simp[results,Tryz.results8,go_sem,q0,q1,q2,q3,q4,q5,q6,q7,q8,q9]
  · have hb:w.heap.size<=q:=by have:=HQQ.o;have:=HRR.o;omega
    have hbr:w.heap.size<=b/\w.heap.size<=g:=by rw[HRR.o];exact HB.o
    refine⟨b,g,by rw[←HFA.o, ←HFB.o, ←HFD.o],?_,hbr.1,hbr.2,?_⟩
    · exact(((((((((HM.o.farq HOB.o _ _).farq HOB.o _ _).farq HOB.o _ _).farq HOB.o _ _).farq HOB.o _ _).farq HOB.o _ _).farq HOB.o _ _).farq HOB.o _ _).farq HOB.o _ _).farq HOB.o _ _
    · exact(((((((((HK.o.setNew hb _ _).setNew hb _ _).setNew hb _ _).setNew hb _ _).setNew hb _ _).setNew hb _ _).setNew hb _ _).setNew hb _ _).setNew hb _ _).setNew hb _ _
end
end Go.Proofs.YtlkgmnjceghpiaaGreat
