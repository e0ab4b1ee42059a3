/-
 What a Find at its end answers,the kit's memory,and the keys of the laws' trees. Condition: the kit's small configurations.
-/
import Derived.Test.YtlkgmnjceghpiaaGreatLkPlant
import Derived.Test.YtlkgmnjceghpiaaGreatLkKeys
import Derived.Test.YtlkgmnjceghpiaaGreatLkFind
namespace Go.Proofs.YtlkgmnjceghpiaaGreat
open Go.RowKit Go.Deep Plain
set_option linter.unusedSectionVars false
set_option linter.unusedVariables false
open _root_.Go.Proofs.Tryz
open Go.Value (int)
section
variable [Cf]

theorem root_of{F:Nat}(h4:4<=F)(h6:F<=6):cellAt (startCells 1 2 Cf.N Cf.C Cf.R (F:Int)) 0=(((1:Nat):Int),(⟨#[]⟩:ByteArray),(0:Int)):=by
 have hN1:=Cf.n1;have hN2:=Cf.n2;have hC1:=Cf.c1;have hC2:=Cf.c2;have hR1:=Cf.r1;have hR2:=Cf.r2;have hNF:0<=(Cf.N:Int)*(F:Int)/\(Cf.N:Int)*(F:Int)<=131072:=(limF (F:=F) h4 h6).nf;have hlen:=startCells_length 1 2 Cf.N Cf.C Cf.R (F:Int) (limF h4 h6);have hall:allCells 1 2 Cf.N Cf.C Cf.R (F:Int)=10+((Cf.N:Int)*(F:Int)+(Cf.N:Int)*4)+(Cf.C:Int)+3*(Cf.R:Int):=by
  unfold allCells firstRecord firstChain firstNode;omega
 have he:nodeAt Cf.N (F:Int) (firstNode 1 2) 1 2=nad F 1 1:=rfl;have hlo:nad F 1 1=12:=by rw[nad_eq (by omega) (by omega) (by omega),nla_eq (by omega) (by omega)];omega
 have hr:((List.replicate (allCells 1 2 Cf.N Cf.C Cf.R (F:Int)).toNat cel0).length:Int)=allCells 1 2 Cf.N Cf.C Cf.R (F:Int):=by rw[List.length_replicate];omega
 unfold startCells;rw[he,cellAt_other (by omega),cellAt_other (by omega),cellAt_same ⟨by omega,by omega⟩];rfl
theorem kitMem2(F:Nat)(h4:4<=F)(h6:F<=6)(w:World) :
  Calls prog 8 #[.agg #[int .i64 1,int .i64 2,int .i64 Cf.N,int .i64 Cf.C,int .i64 Cf.R,int .i64 F,int .u64 Cf.K]] w λ e w'=>∃(b g:Nat) (l:List Cel) (fb fd:Int),e=.returned (.tuple #[.agg #[int .i64 1,int .i64 2,int .i64 Cf.N,int .i64 Cf.C,int .i64 Cf.R,int .i64 F,int .u64 Cf.K,int .i64 10,int .i64 fb,int .i64 fd],.pointer (some ⟨b,0,none⟩)])/\Mem w' b g l 0/\Start F l/\cellAt l 0=(((1:Nat):Int),(⟨#[]⟩:ByteArray),(0:Int))/\Reach3 10 fb fd/\w.heap.size<=b/\w.heap.size<=g/\Kept (λ_=>False) w w':=by
 refine(kitMemory_yes 1 2 Cf.N Cf.C Cf.R (F:Int) Cf.K (limF h4 h6) (by have:=Cf.k1;omega) (by have:=Cf.k2;omega) w).mono ?_;rintro e w' ⟨b,g,he,hM,hb,hg,hK⟩;exact⟨b,g,_,firstChain 1 2 Cf.N (F:Int),firstRecord 1 2 Cf.N Cf.C (F:Int),he,hM,start_of h4 h6,root_of h4 h6,(limF h4 h6).reach,hb,hg,hK⟩
theorem Start.latches{F:Nat}{l:List Cel}(h4:4<=F)(h6:F<=6)(h:Start F l):∀ m,1<=m->m<=Cf.N->cellAt l (nla F m)=cel0:=λ m h1 h2=>by
 have hlo:nad F 1 1=12:=by rw[nad_eq (by omega) (by omega) (by omega),nla_eq (by omega) (by omega)];omega
 rcases nla_lin h4 h6 h1 h2 with⟨e,a⟩|⟨e,a⟩|⟨e,a⟩<;>exact h.zero _ (by omega) (by omega) (by omega)
end

section

def keysOf(ss:List ByteArray):List ByteArray:=(PlainE.keysE (ss.take 40)).map (·.1)
theorem keysOf_len(ss:List ByteArray):(keysOf ss).length<=40:=by
 unfold keysOf;rw[List.length_map];have:=PlainE.keysE_len (ss.take 40);rw[List.length_take] at this;omega
theorem keysOf_facts(ss:List ByteArray):(∀ k∈keysOf ss,k.size<=32)/\∀ i a b,(keysOf ss)[i]? = some a->(keysOf ss)[i+1]? = some b->kl a b=true:=by
 refine⟨λ k hk=>?_,λ i a b ha hb=>?_⟩
 ·obtain⟨y,hy,rfl⟩:=List.mem_map.1 hk
  exact PlainE.keysE_size _ y hy
 ·unfold keysOf at ha hb
  rw[List.getElem?_map] at ha hb;cases h1:(PlainE.keysE (ss.take 40))[i]? with
  | none=>rw[h1] at ha;cases ha
  | some x =>
   cases h2:(PlainE.keysE (ss.take 40))[i+1]? with
   | none=>rw[h2] at hb;cases hb
   | some y =>
    rw[h1] at ha;rw[h2] at hb;cases ha;cases hb;have hl:=(List.getElem?_eq_some_iff.1 h2).1;have:=PlainE.asc_at _ (PlainE.keysE_asc (ss.take 40)) i hl;rw[List.getElem?_eq_getElem (by omega)] at h1;rw[List.getElem?_eq_getElem hl] at h2;cases h1;cases h2;exact this
theorem Rdv.keptN{w w':World}{B:Nat}{v:Value}{n:Nat}{xs:List Value}(h:Rdv w B v n xs)(hk:Kept (λ_=>False) w w')(hB:B<=w.heap.size):Rdv w' w'.heap.size v n xs:=by
 obtain⟨A,c,e,h1,h2,h3⟩:=h;refine⟨A,c,e,h1,h2,λ hp=>?_⟩;obtain⟨g,off,e2,hg,hc⟩:=h3 hp;have:=hk.size;exact⟨g,off,e2,by omega,λ j u hu=>(hk.cell (p:=⟨g,off+j,none⟩) (show g<_ by omega) id).trans (hc j u hu)⟩
theorem keys_read{w:World}{base n:Nat}{v:Value}{l:List PlainE.Ent}(h:w.ownsRow base 9 1 v n (PlainE.keyCells l)):∃ A c,v=.slice A (l.map (·.1)).length c/\Kr w A (l.map (·.1))/\∀ a,A=some a->base<=a.block/\a.block<w.heap.size:=by
 have hl:(l.map (·.1)).length=n:=by have:=h.1;unfold PlainE.keyCells at this;rw[List.length_map] at this ⊢;omega
 rcases h.2 with⟨rfl,rfl⟩|⟨g,cap,cur,rfl,hb,hg,hc,hm,rest⟩
 ·exact⟨none,0,by rw[hl],λ hp=>by omega,λ a h=>by cases h⟩
 ·have hgl:=(Array.getElem?_eq_some_iff.1 hg).1
  refine⟨_,cap,by rw[hl],λ_=>⟨g,0,rfl,hgl,λ i k hi=>?_⟩,λ a ha=>by cases ha;exact⟨hb,hgl⟩⟩;have:=World.ownsRow.cells h (g:=g) rfl i (.string k) (by
   unfold PlainE.keyCells;rw[List.getElem?_map] at hi ⊢;cases hx:l[i]? with
   | none=>rw[hx] at hi;cases hi
   | some x=>rw[hx] at hi;cases hi;rfl)
  rw[Addr.add_lit] at this;exact this
end

section
variable [Cf]

end
end Go.Proofs.YtlkgmnjceghpiaaGreat
