/-
 The kit's Same of strings,where both rows read alike. Condition: rows of at most 2^40 elements.
-/
import Derived.Test.YtlkgmnjceghpiaaGreatLkPlant
import Derived.Deep.CutBlock
namespace Go.Proofs.YtlkgmnjceghpiaaGreat
open Go.RowKit Go.Deep Plain
set_option linter.unusedSectionVars false
set_option linter.unusedVariables false
open _root_.Go.Proofs.Tryz
open Go.Value (int)
set_option maxHeartbeats 8000000
set_option maxRecDepth 100000
section


theorem sameStr(A A2:Option Addr)(c c2:Nat)(ks:List ByteArray)(m:Nat)(hm:ks.length=m)(w:World)(h1:Kr w A ks)(h2:Kr w A2 ks)(hl:m<=1099511627776) :
  Calls prog 19 #[.slice A m c,.slice A2 m c2] w λ e w'=>e=.returned (.bool true)/\∃ n,w'=w.drewN n:=by
 have H1:=Hd h1;have H2:=Hd h2;clear h1 h2;go_enter func19,ntmps19;go_wp2;go_loopw [5] (λ i wr=>∃ j n:Nat,j<=m/\i=int .i64 j/\wr=w.drewN n) (λ i _=>m-(intOf i).toNat)
 case atStart=>exact⟨0,0,by omega,rfl,rfl⟩
 case round =>
  obtain⟨j,n,hj,rfl,rfl⟩:=hrel
  by_cases hlt:j<m
  ·obtain⟨x,hx⟩:∃ x,ks[j]? = some x:=⟨_,List.getElem?_eq_getElem (by omega)⟩
   obtain⟨g1,off1,rfl, -,hc1⟩:=H1.o (by omega);obtain⟨g2,off2,rfl, -,hc2⟩:=H2.o (by omega);have d1:=hc1 j x hx;have d2:=hc2 j x hx;clear hc1 hc2 hx;go_wp2_with fail;go_quiet (fail);go_wp2;go_roundw
   case rel=>exact⟨j+1,n+nq,by omega,by go_num,rfl⟩
   case measure=>simp[intOf];omega
  ·go_wp2
   go_ret;exact⟨rfl,n,rfl⟩

end
end Go.Proofs.YtlkgmnjceghpiaaGreat
