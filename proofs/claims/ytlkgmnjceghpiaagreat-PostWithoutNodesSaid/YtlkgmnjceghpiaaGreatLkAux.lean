/-
 The latch of a view,rows that a law has made,and the list of a law's cells. Condition: the kit's small configurations.
-/
import Derived.Test.YtlkgmnjceghpiaaGreatLkLevel
import Derived.Test.YtlkgmnjceghpiaaGreatLkTreeL
namespace Go.Proofs.YtlkgmnjceghpiaaGreat
open Go.RowKit Go.Deep Plain
set_option linter.unusedSectionVars false
set_option linter.unusedVariables false
open _root_.Go.Proofs.Tryz
open Go.Value (int)
set_option maxHeartbeats 8000000
set_option maxRecDepth 100000
variable [Cf]

theorem Start.rest{F:Nat}{l:List Cel}(h:Start F l):∀ i:Int,((1<=i/\i<=3)\/(6<=i/\i<10)\/10+((Cf.N:Int)*(F:Int)+(Cf.N:Int)*4)<=i)->cellAt l i=cel0:=λ i hi=>by
 have hN1:=Cf.n1;have hNF:0<=(Cf.N:Int)*(F:Int):=Int.mul_nonneg (by omega) (by omega);have e:nad F 1 1=12:=by rw[nad_eq (by omega) (by omega) (by omega),nla_eq (by omega) (by omega)];omega
 exact h.zero i (by omega) (by omega) (by omega)
theorem own_blk{w:World}{base e size n:Nat}{v:Value}{xs:List Value}(h:w.ownsRow base e size v n xs)(hn:0<n) :
  ∃(g cap:Nat) (rest:List Value),v=.slice (some ⟨g,0,none⟩) n cap/\base<=g/\Blk w g e (xs++rest):=by
 rcases h.2 with⟨_,h0⟩|⟨g,cap,cur,rfl,hb,hg,_,_,_,ht⟩
 ·omega
 ·refine⟨g,cap,cur.toList.drop (n*size),rfl,hb,?_⟩
  unfold Blk;rw[hg, ←ht,List.take_append_drop]
theorem vlatch_any(F:Nat)(h4:4<=F)(h6:F<=6)(g n:Nat)(l:List Cel)(hl:l.length=n)(nid:Nat)(a:Int)(hla:nodeAt Cf.N (F:Int) 10 (nid:Int) ((0:Nat):Int)=a)(N M:Int)(K:ByteArray)(w:World)(hv:Blk w g 59 (flat3 l))(hc:cellAt l a=(N,K,M)) :
  Calls prog 104 #[.agg #[int .i64 1,int .i64 2,int .i64 Cf.N,int .i64 Cf.C,int .i64 Cf.R,int .i64 F,int .u64 Cf.K,.slice (some ⟨g,0,none⟩) n n],int .u64 nid] w λ e w'=>e=.returned (int .u64 N)/\Kept (λ_=>False) w w':=by
 have HV0:=Hd hv;have HC:=Hd hc;clear hv hc;go_enter func104,ntmps104;go_wp2_with fail;have hal:=(Kept.refl (λ_=>False) w).alloc (.cells #[int .i64 1,int .i64 2,int .i64 Cf.N,int .i64 Cf.C,int .i64 Cf.R,int .i64 F,int .u64 Cf.K,.slice (some ⟨g,0,none⟩) n n] 36);have HV:=Hd (hal.blk HV0.o id);have HK:=Hd hal;clear hal HV0;generalize w.alloc (.cells #[int .i64 1,int .i64 2,int .i64 Cf.N,int .i64 Cf.C,int .i64 Cf.R,int .i64 F,int .u64 Cf.K,.slice (some ⟨g,0,none⟩) n n] 36)=W at *;have hrf:=hla;refine(vpart_any F h4 h6 g n l hl nid 0 (by omega) a hla N M K _ HV.o HC.o).mono ?_;rintro e w2 ⟨rfl,hK2⟩;have f0:=field0 N M K;have HK2:=Hd (HK.o.trans hK2 kk2);clear hK2;go_wp2;go_ret;exact⟨rfl,HK2.o⟩

end Go.Proofs.YtlkgmnjceghpiaaGreat
