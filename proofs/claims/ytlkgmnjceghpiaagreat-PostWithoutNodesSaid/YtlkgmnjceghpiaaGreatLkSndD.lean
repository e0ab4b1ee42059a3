/-
 What Sound of a view answers for a planted tree. Condition: the kit's small configurations.
-/
import Derived.Test.YtlkgmnjceghpiaaGreatLkSndA
namespace Go.Proofs.YtlkgmnjceghpiaaGreat
open Go.RowKit Go.Deep Plain
set_option linter.unusedSectionVars false
set_option linter.unusedVariables false
open _root_.Go.Proofs.Tryz
open Go.Value (int)
variable [Cf]

theorem infoStr:(prog.info? 9).map (λ i=>(i.zero,i.size,i.bytes))=some (some (.string ByteArray.empty),1,16):=by kernel_rfl
theorem pfield2(lv:Int)(A:Option Addr)(n c:Nat)(hi:ByteArray)(la:Bool)(rt:Int)(w:World):(Instr.field 64 (.agg #[int .i64 lv,.slice A n c,.string hi,.bool la,int .u64 rt]) 2).run prog w=.ok (.string hi) w:=by kernel_rfl
theorem pfield3(lv:Int)(A:Option Addr)(n c:Nat)(hi:ByteArray)(la:Bool)(rt:Int)(w:World):(Instr.field 64 (.agg #[int .i64 lv,.slice A n c,.string hi,.bool la,int .u64 rt]) 3).run prog w=.ok (.bool la) w:=by kernel_rfl
def lows0(lo:Nat->ByteArray)(j:Nat):List ByteArray:=(List.range j).map lo
def strv(ks:List ByteArray):List Value:=ks.map λ k=>Value.string k
theorem lows0_step(lo:Nat->ByteArray)(j:Nat):strv (lows0 lo (j+1))=strv (lows0 lo j)++[.string (lo j)]:=by
 unfold lows0 strv;rw[List.range_succ,List.map_append,List.map_append];rfl
theorem lows0_at(lo:Nat->ByteArray){i j:Nat}(h:i<j):(strv (lows0 lo j))[i]? = some (.string (lo i)):=by
 unfold lows0 strv;rw[List.getElem?_map,List.getElem?_map,List.getElem?_range h];rfl
theorem strs_slice{w:World}{base n:Nat}{v:Value}{xs:List Value}(h:w.ownsRow base 9 1 v n xs):∃ A c,v=.slice A n c:=by
 rcases h.2 with⟨rfl,rfl⟩|⟨g,cap,cur,rfl,_⟩
 ·exact⟨none,0,rfl⟩
 ·exact⟨_,cap,rfl⟩
end Go.Proofs.YtlkgmnjceghpiaaGreat
