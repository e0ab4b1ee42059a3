/-
 What Level of a view answers on a tree. Condition: the kit's small configurations.
-/
import Derived.Test.YtlkgmnjceghpiaaGreatLkPlant
namespace Go.Proofs.YtlkgmnjceghpiaaGreat
open Go.RowKit Go.Deep Plain
set_option linter.unusedSectionVars false
set_option linter.unusedVariables false
open _root_.Go.Proofs.Tryz
open Go.Value (int)
section
variable [Cf]

theorem infoU64:(prog.info? 23).map (λ i=>(i.zero,i.size,i.bytes))=some (some (int .u64 0),1,8):=by kernel_rfl
theorem pfield4(lv:Int)(A:Option Addr)(n c:Nat)(hi:ByteArray)(la:Bool)(rt:Int)(w:World):(Instr.field 64 (.agg #[int .i64 lv,.slice A n c,.string hi,.bool la,int .u64 rt]) 4).run prog w=.ok (int .u64 rt) w:=by kernel_rfl
def wds(ps:List Nat):List Value:=ps.map λ(p:Nat)=>Value.int .u64 p
theorem wds_at{ps:List Nat}{i p:Nat}(h:ps[i]? = some p):(wds ps)[i]? = some (int .u64 p):=by unfold wds;rw[List.getElem?_map,h];rfl
def Wr(w:World)(A:Option Addr)(base:Nat)(ps:List Nat):Prop:=0<ps.length->∃ g off,A=some ⟨g,off,none⟩/\g<w.heap.size/\base<=g/\∀(i p:Nat),ps[i]? = some p->w.cell? ⟨g,off+i,none⟩=some (int .u64 p)
theorem words_read{w:World}{base n:Nat}{v:Value}{ps:List Nat}(h:w.ownsRow base 23 1 v n (wds ps)):∃ A c,v=.slice A n c/\Wr w A base ps:=by
 have hl:ps.length=n:=by have:=h.1;unfold wds at this;rw[List.length_map] at this;omega
 rcases h.2 with⟨rfl,rfl⟩|⟨g,cap,cur,rfl,hb,hg,hc,hm,rest⟩
 ·exact⟨none,0,rfl,λ hp=>by omega⟩
 ·refine⟨_,cap,rfl,λ_=>⟨g,0,rfl,(Array.getElem?_eq_some_iff.1 hg).1,hb,λ i p hi=>?_⟩⟩
  have:=World.ownsRow.cells h (g:=g) rfl i _ (wds_at hi);rw[Addr.add_lit] at this;exact this
end
end Go.Proofs.YtlkgmnjceghpiaaGreat
