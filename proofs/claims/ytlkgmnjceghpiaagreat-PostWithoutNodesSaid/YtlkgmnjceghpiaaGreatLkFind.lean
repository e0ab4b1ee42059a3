/-
 A Find a step at a time,and what it answers. Condition: the kit's small configurations;fewer than 2^63 accesses.
-/
import Derived.Test.YtlkgmnjceghpiaaGreatLkWalk
namespace Go.Proofs.YtlkgmnjceghpiaaGreat
open Go.RowKit Go.Deep Plain
set_option linter.unusedSectionVars false
set_option linter.unusedVariables false
open _root_.Go.Proofs.Tryz
open Go.Value (int)
set_option maxHeartbeats 8000000
set_option maxRecDepth 100000
section
variable [Cf]

structure Nd(F:Nat)(l:List Cel)(n:Nat)(P:Pg):Prop where
 ne:n≠0
 holds:Holds (nad F n) l P
 lat:∃ wd:Nat,(cellAt l (nla F n)).1=(wd:Int)/\¬ wd / 2%2=1
 wf:Wf P
 len:P.xs.length<=F
 asc:Asc P.xs
inductive WPath (F:Nat) (l:List Cel) (nx:Pg->Nat × Nat × ByteArray):Nat->Pg->ByteArray->Nat->Nat->ByteArray->Prop
 | here {n:Nat} {P:Pg} {lo:ByteArray} (h:Nd F l n P) (e:(nx P).1=2):WPath F l nx n P lo (P.xs.length+5) n lo
 | none {n:Nat} {P:Pg} {lo:ByteArray} (h:Nd F l n P) (e:(nx P).1=3):WPath F l nx n P lo (P.xs.length+5) 0 lo
 | go {n:Nat} {P P2:Pg} {lo lo2:ByteArray} {m d t:Nat} {lo3:ByteArray} (h:Nd F l n P) (e:nx P=(1,m,lo2)) (p:WPath F l nx m P2 lo2 d t lo3):WPath F l nx n P lo (P.xs.length+5+d) t lo3
theorem WPath.nd{F:Nat}{l:List Cel}{nx:Pg->Nat × Nat × ByteArray}{n d t:Nat}{P:Pg}{lo lo2:ByteArray}(h:WPath F l nx n P lo d t lo2):Nd F l n P:=by
 cases h<;>assumption
theorem WPath.inv{F:Nat}{l:List Cel}{nx:Pg->Nat × Nat × ByteArray}{n d t:Nat}{P:Pg}{lo lo2:ByteArray}(h:WPath F l nx n P lo d t lo2) :
  (d=P.xs.length+5/\t=n/\lo2=lo/\(nx P).1=2)\/(d=P.xs.length+5/\t=0/\lo2=lo/\(nx P).1=3)\/∃ P2 lo' m d2,d=P.xs.length+5+d2/\nx P=(1,m,lo')/\WPath F l nx m P2 lo' d2 t lo2:=by
 cases h with
 | here h e=>exact .inl ⟨rfl,rfl,rfl,e⟩
 | none h e=>exact .inr (.inl ⟨rfl,rfl,rfl,e⟩)
 | go h e p=>exact .inr (.inr ⟨_,_,_,_,rfl,e,p⟩)
theorem WPath.len{F:Nat}{l:List Cel}{nx:Pg->Nat × Nat × ByteArray}{n d t:Nat}{P:Pg}{lo lo2:ByteArray}(h:WPath F l nx n P lo d t lo2):P.xs.length+5<=d:=by
 cases h<;>omega
def Wkr(Z:Nat->Prop)(w:World)(F:Nat)(fb fd:Int)(x:Nat)(ty:TypeId)(tl:List Value)(n:Nat)(ph:Int)(y:Rst):Prop :=
 ∃ q,Blk w x ty (wkv F fb fd n (.pointer (some ⟨q,0,none⟩)) ph tl)/\Con Z w 1 2 Cf.N Cf.C Cf.R F Cf.K 10 fb fd q 196 n y.s (rtl y)/\¬ Z x
theorem fs_root(F:Nat)(h4:4<=F)(h6:F<=6)(fb fd:Int)(hd:Reach3 10 fb fd)(x nid:Nat)(rp:Value)(tl:List Value)(w:World)(h:Blk w x 102 (wkv F fb fd nid (rp) 0 tl))(b g:Nat)(l:List Cel)(k:Nat)(hm:Mem w b g l k)(hk:k<9223372036854775808)(hxb:x≠b)(hxg:x≠g)(n:Nat)(hn0:n≠0)(mM:Int)(kK:ByteArray)(hc:cellAt l 0=((n:Int),kK,mM)) :
  Calls prog 26 #[.pointer (some ⟨x,0,none⟩),.pointer (some ⟨b,0,none⟩)] w λ e w'=>∃ q,e=.returned (.bool false)/\Mem w' b g l (k+1)/\Blk w' x 102 (wkv F fb fd n (.pointer (some ⟨q,0,none⟩)) 1 tl)/\Con (λ i=>i=q) w' 1 2 Cf.N Cf.C Cf.R F Cf.K 10 fb fd q 196 n cs0 [int .u64 0,int .i64 0]/\w.heap.size<=q/\Kept (λ i=>i=x\/i=b\/i=g) w w':=by
 have HX:=Hd h;have HM:=Hd hm;have HC:=Hd hc;clear h hm hc;go_enter func26,ntmps26;go_wp2_with fail;refine(wstep_root F h4 h6 fb fd hd x 102 nid rp tl _ HX.o b g l k HM.o hk hxb hxg n hn0 mM kK HC.o).mono ?_;rintro e w1 ⟨q,rfl,hM1,hB1,hC1,hq1,hK1⟩;have HM1:=Hd hM1;have HB1:=Hd hB1;have HC1:=Hd hC1;have HQ1:=Hd hq1;have HK1:=Hd hK1;clear hM1 hB1 hC1 hq1 hK1;go_wp2_with fail;refine(ended_1 F fb fd x 102 n (.pointer (some ⟨q,0,none⟩)) tl _ HB1.o).mono ?_;rintro e w2 ⟨rfl,rfl⟩;go_wp2;go_ret;exact⟨q,rfl,HM1.o,HB1.o,HC1.o,HQ1.o,HK1.o⟩

theorem fs_go(Z:Nat->Prop)(F:Nat)(fb fd:Int)(x nid q:Nat)(tl:List Value)(w:World)(h:Blk w x 102 (wkv F fb fd nid (.pointer (some ⟨q,0,none⟩)) 1 tl))(hZx:¬ Z x)(b g k2:Nat)(l:List Cel)(hxb:x≠b)(hxg:x≠g)(y:Rst)(hS:Calls prog 107 #[.pointer (some ⟨q,0,none⟩),.pointer (some ⟨b,0,none⟩)] w λ e w'=>e=.returned (.bool false)/\Mem w' b g l k2/\∃ Z',Con Z' w' 1 2 Cf.N Cf.C Cf.R F Cf.K 10 fb fd q 196 nid y.s (rtl y)/\Kept (λ i=>Z i\/i=b\/i=g) w w'/\(∀ i,Z' i->Z i\/w.heap.size<=i)) :
  Calls prog 26 #[.pointer (some ⟨x,0,none⟩),.pointer (some ⟨b,0,none⟩)] w λ e w'=>e=.returned (.bool false)/\Mem w' b g l k2/\∃ Z',Wkr Z' w' F fb fd x 102 tl nid 1 y/\Kept (λ i=>i=x\/Z i\/i=b\/i=g) w w'/\(∀ i,Z' i->Z i\/w.heap.size<=i):=by
 have HX:=Hd h;have HS:=Hd hS;clear h hS;go_enter func26,ntmps26;go_wp2_with fail;refine(wstep_read F fb fd x 102 nid q b tl _ HX.o false (λ w'=>Mem w' b g l k2/\∃ Z',Con Z' w' 1 2 Cf.N Cf.C Cf.R F Cf.K 10 fb fd q 196 nid y.s (rtl y)/\Kept (λ i=>Z i\/i=b\/i=g) w w'/\(∀ i,Z' i->Z i\/w.heap.size<=i)) HS.o).mono ?_;rintro e w1 ⟨rfl,hM1,Z1,hC1,hK1,hn1⟩;have hX1:=hK1.blk HX.o (λ e=>by rcases e with e|e|e;exact hZx e;exact hxb e;exact hxg e);have hxl:=HX.o.lt;have HZ1:=Hd (show ¬ Z1 x from λ e=>by rcases hn1 x e with h|h;exact hZx h;omega);have HM1:=Hd hM1;have HC1:=Hd hC1;have HN1:=Hd hn1;have HK1:=Hd (hK1.mono (T:=λ i=>i=x\/Z i\/i=b\/i=g) (λ i e=>.inr e));have HX1:=Hd hX1;clear hM1 hC1 hK1 hn1 hX1 hxl HX HS;go_wp2_with fail;refine(ended_1 F fb fd x 102 nid (.pointer (some ⟨q,0,none⟩)) tl _ HX1.o).mono ?_;rintro e w2 ⟨rfl,rfl⟩;go_wp2;go_ret;exact⟨rfl,HM1.o,Z1,⟨q,HX1.o,HC1.o,HZ1.o⟩,HK1.o,HN1.o⟩

theorem fs_turn1(Z:Nat->Prop)(F:Nat)(fb fd:Int)(x nid q:Nat)(tl:List Value)(w:World)(h:Blk w x 102 (wkv F fb fd nid (.pointer (some ⟨q,0,none⟩)) 1 tl))(hZx:¬ Z x)(b g k2:Nat)(l:List Cel)(hxb:x≠b)(hxg:x≠g)(y:Rst)(hph:y.ph=3)(h40:y.s.xs.length<=1099511627776)(hS:Calls prog 107 #[.pointer (some ⟨q,0,none⟩),.pointer (some ⟨b,0,none⟩)] w λ e w'=>e=.returned (.bool true)/\Mem w' b g l k2/\∃ Z',Con Z' w' 1 2 Cf.N Cf.C Cf.R F Cf.K 10 fb fd q 196 nid y.s (rtl y)/\Kept (λ i=>Z i\/i=b\/i=g) w w'/\(∀ i,Z' i->Z i\/w.heap.size<=i))(tl2:List Value)(X:World->Nat->Value->Prop)
  (hT:∀(W:World) (A:Option Addr) (c:Nat),w.heap.size<=W.heap.size->Blk W x 102 (wkv F fb fd nid (.pointer (some ⟨q,0,none⟩)) 1 tl)->Rs W A c y.s.xs->Calls prog 55 #[.pointer (some ⟨x,0,none⟩),.agg #[int .i64 y.s.lv,.slice A y.s.xs.length c,.string y.s.hi,.bool y.s.la,int .u64 y.s.rt]] W λ e w'=>e=.returned (.tuple #[])/\∃ nid2 rp2,Blk w' x 102 (wkv F fb fd nid2 (rp2) 1 tl2)/\X w' nid2 rp2/\Kept (λ i=>i=x) W w') :
  Calls prog 26 #[.pointer (some ⟨x,0,none⟩),.pointer (some ⟨b,0,none⟩)] w λ e w'=>e=.returned (.bool false)/\Mem w' b g l k2/\∃ nid2 rp2,Blk w' x 102 (wkv F fb fd nid2 (rp2) 1 tl2)/\X w' nid2 rp2/\∃ Z',Con Z' w' 1 2 Cf.N Cf.C Cf.R F Cf.K 10 fb fd q 196 nid y.s (rtl y)/\¬ Z' x/\Kept (λ i=>i=x\/Z i\/i=b\/i=g) w w'/\(∀ i,Z' i->Z i\/w.heap.size<=i):=by
 have HX:=Hd h;have HS:=Hd hS;have HT:=Hd hT;clear h hS hT;go_enter func26,ntmps26;go_wp2_with fail;refine(wstep_read F fb fd x 102 nid q b tl _ HX.o true (λ w'=>Mem w' b g l k2/\∃ Z',Con Z' w' 1 2 Cf.N Cf.C Cf.R F Cf.K 10 fb fd q 196 nid y.s (rtl y)/\Kept (λ i=>Z i\/i=b\/i=g) w w'/\(∀ i,Z' i->Z i\/w.heap.size<=i)) HS.o).mono ?_;rintro e w1 ⟨rfl,hM1,Z1,hC1,hK1,hn1⟩;have hX1:=hK1.blk HX.o (λ e=>by rcases e with e|e|e;exact hZx e;exact hxb e;exact hxg e);have hxl:=HX.o.lt;have HZ1:=Hd (show ¬ Z1 x from λ e=>by rcases hn1 x e with h|h;exact hZx h;omega);have HM1:=Hd hM1;have HC1:=Hd hC1;have HN1:=Hd hn1;have HK1:=Hd (hK1.mono (T:=λ i=>i=x\/Z i\/i=b\/i=g) (λ i e=>.inr e));have HX1:=Hd hX1;clear hM1 hC1 hK1 hn1 hX1 hxl HX HS;go_wp2_with fail;refine(wpage_any Z1 F fb fd x 102 nid q 1 tl _ HX1.o y HC1.o hph h40).mono ?_;rintro e w2 ⟨A,c,rfl,hRs,hA,hK2⟩;have HX2:=Hd (hK2.blk HX1.o id);have HM2:=Hd (HM1.o.kept hK2 id id);have HC2:=Hd (HC1.o.kept hK2 kk2);have HK2:=Hd (HK1.o.trans hK2 (λ_ _ h=>h.elim));have HRs:=Hd hRs;clear hRs hA hK2 HX1 HM1 HC1 HK1;go_wp2_with fail;refine(HT.o w2 A c HK2.o.size HX2.o HRs.o).mono ?_;rintro e w3 ⟨rfl,nid2,rp2,hB3,hX3,hK3⟩;have HB3:=Hd hB3;have HX3:=Hd hX3;have HM3:=Hd (HM2.o.kept hK3 (λ e=>hxb e.symm) (λ e=>hxg e.symm));have HC3:=Hd (HC2.o.kept hK3 (λ i hi e=>HZ1.o (by subst e;exact hi)));have HK3:=Hd (HK2.o.trans hK3 (λ_ _ h=>.inl h));clear hB3 hX3 hK3 HX2 HM2 HC2 HK2 HT HRs;go_wp2_with fail;refine(ended_1 F fb fd x 102 nid2 rp2 tl2 _ HB3.o).mono ?_;rintro e w4 ⟨rfl,rfl⟩;go_wp2;go_ret;exact⟨rfl,HM3.o,nid2,rp2,HB3.o,HX3.o,Z1,HC3.o,HZ1.o,HK3.o,HN1.o⟩

theorem fs_turn2(Z:Nat->Prop)(F:Nat)(fb fd:Int)(x nid q:Nat)(tl:List Value)(w:World)(h:Blk w x 102 (wkv F fb fd nid (.pointer (some ⟨q,0,none⟩)) 1 tl))(hZx:¬ Z x)(b g k2:Nat)(l:List Cel)(hxb:x≠b)(hxg:x≠g)(y:Rst)(hph:y.ph=3)(h40:y.s.xs.length<=1099511627776)(hS:Calls prog 107 #[.pointer (some ⟨q,0,none⟩),.pointer (some ⟨b,0,none⟩)] w λ e w'=>e=.returned (.bool true)/\Mem w' b g l k2/\∃ Z',Con Z' w' 1 2 Cf.N Cf.C Cf.R F Cf.K 10 fb fd q 196 nid y.s (rtl y)/\Kept (λ i=>Z i\/i=b\/i=g) w w'/\(∀ i,Z' i->Z i\/w.heap.size<=i))(tl2:List Value)(X:World->Nat->Value->Prop)
  (hT:∀(W:World) (A:Option Addr) (c:Nat),w.heap.size<=W.heap.size->Blk W x 102 (wkv F fb fd nid (.pointer (some ⟨q,0,none⟩)) 1 tl)->Rs W A c y.s.xs->Calls prog 55 #[.pointer (some ⟨x,0,none⟩),.agg #[int .i64 y.s.lv,.slice A y.s.xs.length c,.string y.s.hi,.bool y.s.la,int .u64 y.s.rt]] W λ e w'=>e=.returned (.tuple #[])/\∃ nid2 rp2,Blk w' x 102 (wkv F fb fd nid2 (rp2) 2 tl2)/\X w' nid2 rp2/\Kept (λ i=>i=x) W w') :
  Calls prog 26 #[.pointer (some ⟨x,0,none⟩),.pointer (some ⟨b,0,none⟩)] w λ e w'=>e=.returned (.bool true)/\Mem w' b g l k2/\∃ nid2 rp2,Blk w' x 102 (wkv F fb fd nid2 (rp2) 2 tl2)/\X w' nid2 rp2/\∃ Z',Con Z' w' 1 2 Cf.N Cf.C Cf.R F Cf.K 10 fb fd q 196 nid y.s (rtl y)/\¬ Z' x/\Kept (λ i=>i=x\/Z i\/i=b\/i=g) w w'/\(∀ i,Z' i->Z i\/w.heap.size<=i):=by
 have HX:=Hd h;have HS:=Hd hS;have HT:=Hd hT;clear h hS hT;go_enter func26,ntmps26;go_wp2_with fail;refine(wstep_read F fb fd x 102 nid q b tl _ HX.o true (λ w'=>Mem w' b g l k2/\∃ Z',Con Z' w' 1 2 Cf.N Cf.C Cf.R F Cf.K 10 fb fd q 196 nid y.s (rtl y)/\Kept (λ i=>Z i\/i=b\/i=g) w w'/\(∀ i,Z' i->Z i\/w.heap.size<=i)) HS.o).mono ?_;rintro e w1 ⟨rfl,hM1,Z1,hC1,hK1,hn1⟩;have hX1:=hK1.blk HX.o (λ e=>by rcases e with e|e|e;exact hZx e;exact hxb e;exact hxg e);have hxl:=HX.o.lt;have HZ1:=Hd (show ¬ Z1 x from λ e=>by rcases hn1 x e with h|h;exact hZx h;omega);have HM1:=Hd hM1;have HC1:=Hd hC1;have HN1:=Hd hn1;have HK1:=Hd (hK1.mono (T:=λ i=>i=x\/Z i\/i=b\/i=g) (λ i e=>.inr e));have HX1:=Hd hX1;clear hM1 hC1 hK1 hn1 hX1 hxl HX HS;go_wp2_with fail;refine(wpage_any Z1 F fb fd x 102 nid q 1 tl _ HX1.o y HC1.o hph h40).mono ?_;rintro e w2 ⟨A,c,rfl,hRs,hA,hK2⟩;have HX2:=Hd (hK2.blk HX1.o id);have HM2:=Hd (HM1.o.kept hK2 id id);have HC2:=Hd (HC1.o.kept hK2 kk2);have HK2:=Hd (HK1.o.trans hK2 (λ_ _ h=>h.elim));have HRs:=Hd hRs;clear hRs hA hK2 HX1 HM1 HC1 HK1;go_wp2_with fail;refine(HT.o w2 A c HK2.o.size HX2.o HRs.o).mono ?_;rintro e w3 ⟨rfl,nid2,rp2,hB3,hX3,hK3⟩;have HB3:=Hd hB3;have HX3:=Hd hX3;have HM3:=Hd (HM2.o.kept hK3 (λ e=>hxb e.symm) (λ e=>hxg e.symm));have HC3:=Hd (HC2.o.kept hK3 (λ i hi e=>HZ1.o (by subst e;exact hi)));have HK3:=Hd (HK2.o.trans hK3 (λ_ _ h=>.inl h));clear hB3 hX3 hK3 HX2 HM2 HC2 HK2 HT HRs;go_wp2_with fail;refine(ended_2 F fb fd x 102 nid2 rp2 tl2 _ HB3.o).mono ?_;rintro e w4 ⟨rfl,rfl⟩;go_wp2;go_ret;exact⟨rfl,HM3.o,nid2,rp2,HB3.o,HX3.o,Z1,HC3.o,HZ1.o,HK3.o,HN1.o⟩

theorem fs_turn3(Z:Nat->Prop)(F:Nat)(fb fd:Int)(x nid q:Nat)(tl:List Value)(w:World)(h:Blk w x 102 (wkv F fb fd nid (.pointer (some ⟨q,0,none⟩)) 1 tl))(hZx:¬ Z x)(b g k2:Nat)(l:List Cel)(hxb:x≠b)(hxg:x≠g)(y:Rst)(hph:y.ph=3)(h40:y.s.xs.length<=1099511627776)(hS:Calls prog 107 #[.pointer (some ⟨q,0,none⟩),.pointer (some ⟨b,0,none⟩)] w λ e w'=>e=.returned (.bool true)/\Mem w' b g l k2/\∃ Z',Con Z' w' 1 2 Cf.N Cf.C Cf.R F Cf.K 10 fb fd q 196 nid y.s (rtl y)/\Kept (λ i=>Z i\/i=b\/i=g) w w'/\(∀ i,Z' i->Z i\/w.heap.size<=i))(tl2:List Value)(X:World->Nat->Value->Prop)
  (hT:∀(W:World) (A:Option Addr) (c:Nat),w.heap.size<=W.heap.size->Blk W x 102 (wkv F fb fd nid (.pointer (some ⟨q,0,none⟩)) 1 tl)->Rs W A c y.s.xs->Calls prog 55 #[.pointer (some ⟨x,0,none⟩),.agg #[int .i64 y.s.lv,.slice A y.s.xs.length c,.string y.s.hi,.bool y.s.la,int .u64 y.s.rt]] W λ e w'=>e=.returned (.tuple #[])/\∃ nid2 rp2,Blk w' x 102 (wkv F fb fd nid2 (rp2) 3 tl2)/\X w' nid2 rp2/\Kept (λ i=>i=x) W w') :
  Calls prog 26 #[.pointer (some ⟨x,0,none⟩),.pointer (some ⟨b,0,none⟩)] w λ e w'=>e=.returned (.bool true)/\Mem w' b g l k2/\∃ nid2 rp2,Blk w' x 102 (wkv F fb fd nid2 (rp2) 3 tl2)/\X w' nid2 rp2/\∃ Z',Con Z' w' 1 2 Cf.N Cf.C Cf.R F Cf.K 10 fb fd q 196 nid y.s (rtl y)/\¬ Z' x/\Kept (λ i=>i=x\/Z i\/i=b\/i=g) w w'/\(∀ i,Z' i->Z i\/w.heap.size<=i):=by
 have HX:=Hd h;have HS:=Hd hS;have HT:=Hd hT;clear h hS hT;go_enter func26,ntmps26;go_wp2_with fail;refine(wstep_read F fb fd x 102 nid q b tl _ HX.o true (λ w'=>Mem w' b g l k2/\∃ Z',Con Z' w' 1 2 Cf.N Cf.C Cf.R F Cf.K 10 fb fd q 196 nid y.s (rtl y)/\Kept (λ i=>Z i\/i=b\/i=g) w w'/\(∀ i,Z' i->Z i\/w.heap.size<=i)) HS.o).mono ?_;rintro e w1 ⟨rfl,hM1,Z1,hC1,hK1,hn1⟩;have hX1:=hK1.blk HX.o (λ e=>by rcases e with e|e|e;exact hZx e;exact hxb e;exact hxg e);have hxl:=HX.o.lt;have HZ1:=Hd (show ¬ Z1 x from λ e=>by rcases hn1 x e with h|h;exact hZx h;omega);have HM1:=Hd hM1;have HC1:=Hd hC1;have HN1:=Hd hn1;have HK1:=Hd (hK1.mono (T:=λ i=>i=x\/Z i\/i=b\/i=g) (λ i e=>.inr e));have HX1:=Hd hX1;clear hM1 hC1 hK1 hn1 hX1 hxl HX HS;go_wp2_with fail;refine(wpage_any Z1 F fb fd x 102 nid q 1 tl _ HX1.o y HC1.o hph h40).mono ?_;rintro e w2 ⟨A,c,rfl,hRs,hA,hK2⟩;have HX2:=Hd (hK2.blk HX1.o id);have HM2:=Hd (HM1.o.kept hK2 id id);have HC2:=Hd (HC1.o.kept hK2 kk2);have HK2:=Hd (HK1.o.trans hK2 (λ_ _ h=>h.elim));have HRs:=Hd hRs;clear hRs hA hK2 HX1 HM1 HC1 HK1;go_wp2_with fail;refine(HT.o w2 A c HK2.o.size HX2.o HRs.o).mono ?_;rintro e w3 ⟨rfl,nid2,rp2,hB3,hX3,hK3⟩;have HB3:=Hd hB3;have HX3:=Hd hX3;have HM3:=Hd (HM2.o.kept hK3 (λ e=>hxb e.symm) (λ e=>hxg e.symm));have HC3:=Hd (HC2.o.kept hK3 (λ i hi e=>HZ1.o (by subst e;exact hi)));have HK3:=Hd (HK2.o.trans hK3 (λ_ _ h=>.inl h));clear hB3 hX3 hK3 HX2 HM2 HC2 HK2 HT HRs;go_wp2_with fail;refine(ended_3 F fb fd x 102 nid2 rp2 tl2 _ HB3.o).mono ?_;rintro e w4 ⟨rfl,rfl⟩;go_wp2;go_ret;exact⟨rfl,HM3.o,nid2,rp2,HB3.o,HX3.o,Z1,HC3.o,HZ1.o,HK3.o,HN1.o⟩
end

section
variable [Cf]

def tlF(key:ByteArray)(lvl:Nat):ByteArray->List Value:=λ_=>[.string key,int .i64 lvl]
def nxF(key:ByteArray)(lvl:Nat)(P:Pg):Nat × Nat × ByteArray :=
 if P.lv<lvl then (3,0,⟨#[]⟩) else if (P.la||ltB key.toList P.hi.toList)=false then (1,P.rt,⟨#[]⟩) else if lvl<P.lv then (1,(near (before P.xs (if has key P.xs=true then cnt key P.xs+1 else cnt key P.xs))).2.1,⟨#[]⟩) else (2,0,⟨#[]⟩)
theorem nxF_2{key:ByteArray}{lvl:Nat}{P:Pg}(h:(nxF key lvl P).1=2):lvl=P.lv/\(P.la||ltB key.toList P.hi.toList)=true:=by
 unfold nxF at h;split at h
 ·exact absurd h (by simp)
 ·split at h
  ·exact absurd h (by simp)
  ·split at h
   ·exact absurd h (by simp)
   ·rename_i h1 h2 h3;exact⟨by omega,by simpa only [Bool.not_eq_false] using h2⟩
theorem nxF_3{key:ByteArray}{lvl:Nat}{P:Pg}(h:(nxF key lvl P).1=3):P.lv<lvl:=by
 unfold nxF at h;split at h
 ·assumption
 ·split at h
  ·exact absurd h (by simp)
  ·split at h<;>exact absurd h (by simp)
theorem nxF_1{key:ByteArray}{lvl m:Nat}{lo:ByteArray}{P:Pg}(h:nxF key lvl P=(1,m,lo)):lvl<=P.lv/\(((P.la||ltB key.toList P.hi.toList)=false/\P.rt=m)\/((P.la||ltB key.toList P.hi.toList)=true/\lvl<P.lv/\(near (before P.xs (if has key P.xs=true then cnt key P.xs+1 else cnt key P.xs))).2.1=m)):=by
 unfold nxF at h;split at h
 ·cases h
 ·rename_i h1;refine⟨by omega,?_⟩
  split at h
  ·rename_i h2;exact .inl ⟨h2,by injection h with _ h;injection h⟩
  ·rename_i h2;split at h
   ·rename_i h3;exact .inr ⟨by simpa only [Bool.not_eq_false] using h2,h3,by injection h with _ h;injection h⟩
   ·cases h
theorem newFind_any(F:Nat)(fb fd:Int)(key:ByteArray)(lvl:Nat)(w:World) :
  Calls prog 25 #[.agg #[int .i64 1,int .i64 2,int .i64 Cf.N,int .i64 Cf.C,int .i64 Cf.R,int .i64 F,int .u64 Cf.K,int .i64 10,int .i64 fb,int .i64 fd],.string key,int .i64 lvl] w λ e w'=>∃ x,e=.returned (.pointer (some ⟨x,0,none⟩))/\w.heap.size<=x/\Blk w' x 102 (wkv F fb fd 0 (.pointer none) 0 (tlF key lvl ⟨#[]⟩))/\Kept (λ_=>False) w w':=by
 go_enter func25,ntmps25;go_wp2;go_ret;have h:=Blk.new (w.alloc (.cells #[int .i64 1,int .i64 2,int .i64 Cf.N,int .i64 Cf.C,int .i64 Cf.R,int .i64 F,int .u64 Cf.K,int .i64 10,int .i64 fb,int .i64 fd] 28)) (wkv F fb fd 0 (.pointer none) 0 (tlF key lvl ⟨#[]⟩)) 102;rw[nblk_alloc] at h;exact⟨_,rfl,Nat.le_succ _,h,((Kept.refl _ _).alloc _).alloc _⟩
end

section
variable [Cf]

theorem fnode_got(Z:Nat->Prop)(F:Nat)(fb fd:Int)(x nid q:Nat)(tl:List Value)(w:World)(h:Blk w x 102 (wkv F fb fd nid (.pointer (some ⟨q,0,none⟩)) 2 tl))(y:Rst)(hr:Con Z w 1 2 Cf.N Cf.C Cf.R F Cf.K 10 fb fd q 196 nid y.s (rtl y))(hph:y.ph=3)(h40:y.s.xs.length<=1099511627776) :
  Calls prog 27 #[.pointer (some ⟨x,0,none⟩)] w λ e w'=>∃ A c,e=.returned (.tuple #[int .u64 nid,.agg #[int .i64 y.s.lv,.slice A y.s.xs.length c,.string y.s.hi,.bool y.s.la,int .u64 y.s.rt]])/\Rs w' A c y.s.xs/\(∀ a,A=some a->w.heap.size<=a.block)/\Kept (λ_=>False) w w':=by
 have hxl:=h.lt;have HX:=Hd h;have HR:=Hd hr;clear h hr;go_enter func27,ntmps27;go_wp2_with fail;have hal:=(Kept.refl (λ_=>False) w).alloc (.cells #[int .i64 0,.slice none 0 0,.string ⟨#[]⟩,.bool false,int .u64 0] 64);have HK1:=Hd hal;have HNB:=Hd (Blk.new w [int .i64 0,.slice none 0 0,.string ⟨#[]⟩,.bool false,int .u64 0] 64);replace HX:=Hd (hal.blk HX.o id);replace HR:=Hd (HR.o.kept hal kk2);have hsz:w.heap.size<(w.alloc (.cells #[int .i64 0,.slice none 0 0,.string ⟨#[]⟩,.bool false,int .u64 0] 64)).heap.size:=by rw[nblk_alloc];omega
 clear hal;generalize hr0:w.heap.size=r0 at *;have HR0:=Hd hr0;clear hr0;generalize w.alloc (.cells #[int .i64 0,.slice none 0 0,.string ⟨#[]⟩,.bool false,int .u64 0] 64)=W at *;refine(wnode_got Z F fb fd x 102 nid q tl W HX.o y HR.o hph h40).mono ?_;rintro e w2 ⟨A,c,rfl,hRs,hA,hK2⟩;have hb2:=hK2.blk HNB.o id;obtain⟨x0,x1,x2,x3,x4⟩:=hb2.c5;have z0:=hb2.frozen 0;have z1:=hb2.frozen 1;have z2:=hb2.frozen 2;have z3:=hb2.frozen 3;have z4:=hb2.frozen 4;have hK5:=(((((Kept.refl (λ i=>i=r0) w2).setCell (a:=⟨r0,0,none⟩) (λ_=>rfl) (int .i64 y.s.lv)).setCell (a:=⟨r0,1,none⟩) (λ_=>rfl) (.slice A y.s.xs.length c)).setCell (a:=⟨r0,2,none⟩) (λ_=>rfl) (.string y.s.hi)).setCell (a:=⟨r0,3,none⟩) (λ_=>rfl) (.bool y.s.la)).setCell (a:=⟨r0,4,none⟩) (λ_=>rfl) (int .u64 y.s.rt);have HNc:=Hd ((((((hb2).set 0 (int .i64 y.s.lv)).set 1 (.slice A y.s.xs.length c)).set 2 (.string y.s.hi)).set 3 (.bool y.s.la)).set 4 (int .u64 y.s.rt));have HRs:=Hd (hRs.keptF hK5 (λ a ha e=>by have:=hA a ha;omega));have HKc:=Hd ((hK2.mono (T:=λ i=>i=r0) (λ_ h=>h.elim)).trans hK5 kk2);have HA:=Hd (show ∀ a,A=some a->r0<=a.block from λ a ha=>by have:=hA a ha;omega);clear hb2 hK5 hRs hA hK2 HNB HR;go_wp2;obtain⟨q0,q1,q2,q3,q4⟩:=HNc.o.c5;refine bodyPost_ret (v:=.tuple #[int .u64 nid,.agg #[int .i64 y.s.lv,.slice A y.s.xs.length c,.string y.s.hi,.bool y.s.la,int .u64 y.s.rt]]) ?_ rfl ?_
 ·simp[results,Tryz.results27,go_sem,q0,q1,q2,q3,q4]
 refine⟨A,c,rfl,HRs.o,λ a ha=>by have:=HA.o a ha;have:=HR0.o;omega,?_⟩;have hKK:=(HK1.o.mono (T:=λ i=>i=r0) (λ_ h=>h.elim)).trans HKc.o kk2;exact⟨hKK.os,hKK.tape,hKK.output,hKK.size,λ i hi _=>hKK.block i hi (λ e=>by have:=HR0.o;omega)⟩

theorem fnode_failed(F:Nat)(fb fd:Int)(x nid:Nat)(rp:Value)(tl:List Value)(w:World)(h:Blk w x 102 (wkv F fb fd nid (rp) 3 tl)) :
  Calls prog 27 #[.pointer (some ⟨x,0,none⟩)] w λ e w'=>e=.returned (.tuple #[int .u64 0,.agg #[int .i64 0,.slice none 0 0,.string ⟨#[]⟩,.bool false,int .u64 0]])/\Kept (λ_=>False) w w':=by
 have HX:=Hd h;clear h;go_enter func27,ntmps27;go_wp2_with fail;have hal:=(Kept.refl (λ_=>False) w).alloc (.cells #[int .i64 0,.slice none 0 0,.string ⟨#[]⟩,.bool false,int .u64 0] 64);have HK1:=Hd hal;have HNB:=Hd (Blk.new w [int .i64 0,.slice none 0 0,.string ⟨#[]⟩,.bool false,int .u64 0] 64);replace HX:=Hd (hal.blk HX.o id);clear hal;generalize hr0:w.heap.size=r0 at *;have HR0:=Hd hr0;clear hr0;generalize w.alloc (.cells #[int .i64 0,.slice none 0 0,.string ⟨#[]⟩,.bool false,int .u64 0] 64)=W at *;refine(wnode_failed F fb fd x 102 nid rp tl W HX.o).mono ?_;rintro e w2 ⟨rfl,hK2⟩;have hb2:=hK2.blk HNB.o id;obtain⟨x0,x1,x2,x3,x4⟩:=hb2.c5;have z0:=hb2.frozen 0;have z1:=hb2.frozen 1;have z2:=hb2.frozen 2;have z3:=hb2.frozen 3;have z4:=hb2.frozen 4;have hK5:=(((((Kept.refl (λ i=>i=r0) w2).setCell (a:=⟨r0,0,none⟩) (λ_=>rfl) (int .i64 0)).setCell (a:=⟨r0,1,none⟩) (λ_=>rfl) (.slice none 0 0)).setCell (a:=⟨r0,2,none⟩) (λ_=>rfl) (.string ⟨#[]⟩)).setCell (a:=⟨r0,3,none⟩) (λ_=>rfl) (.bool false)).setCell (a:=⟨r0,4,none⟩) (λ_=>rfl) (int .u64 0);have HNc:=Hd ((((((hb2).set 0 (int .i64 0)).set 1 (.slice none 0 0)).set 2 (.string ⟨#[]⟩)).set 3 (.bool false)).set 4 (int .u64 0));have HKc:=Hd ((hK2.mono (T:=λ i=>i=r0) (λ_ h=>h.elim)).trans hK5 kk2);clear hb2 hK5 hK2 HNB;go_wp2;obtain⟨q0,q1,q2,q3,q4⟩:=HNc.o.c5;refine bodyPost_ret (v:=.tuple #[int .u64 0,.agg #[int .i64 0,.slice none 0 0,.string ⟨#[]⟩,.bool false,int .u64 0]]) ?_ rfl ⟨rfl,?_⟩
 ·simp[results,Tryz.results27,go_sem,q0,q1,q2,q3,q4]
 have hKK:=(HK1.o.mono (T:=λ i=>i=r0) (λ_ h=>h.elim)).trans HKc.o kk2;exact⟨hKK.os,hKK.tape,hKK.output,hKK.size,λ i hi _=>hKK.block i hi (λ e=>by have:=HR0.o;omega)⟩
end
end Go.Proofs.YtlkgmnjceghpiaaGreat
