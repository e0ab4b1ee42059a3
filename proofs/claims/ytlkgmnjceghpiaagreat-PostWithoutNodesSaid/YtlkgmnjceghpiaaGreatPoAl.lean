/-
 A Post that nobody disturbs: what it does from level to level,and its steps one by one. Condition: a layout within its limits;a fanout of four to six.
-/
import Derived.Test.YtlkgmnjceghpiaaGreatPoPst
import Derived.Test.YtlkgmnjceghpiaaGreatPoGrw
import Derived.Test.YtlkgmnjceghpiaaGreatInWay
namespace Go.Proofs.YtlkgmnjceghpiaaGreat
open Go.RowKit Go.Deep Plain
set_option linter.unusedSectionVars false
set_option linter.unusedVariables false
open _root_.Go.Proofs.Tryz
open Go.Value (int)
set_option maxHeartbeats 8000000
set_option maxRecDepth 100000
section
variable [Cf]

inductive Pst
 | st
 | lk (t w0:Nat) (P:Pg)
 | ins (t w0:Nat) (P:Pg) (m:Nat) (sp:ByteArray) (Nv:Nat)
 | gr (Nv:Nat)
def rl1(F t:Nat)(wd:Nat)(l:List Cel):List Cel:=putAt l (nla F t) (((unlockW wd:Nat):Int),(⟨#[]⟩:ByteArray),(0:Int))
def ins2(F t wd:Nat)(P X:Pg)(m:Nat)(sp:ByteArray)(Nv:Nat)(l:List Cel):List Cel:=app (app (memT l Nv ⟨#[]⟩ 0) (frsN F (Cf.N:Int) X m (Nv+1))) (wrsN F (Cf.N:Int) t wd P (lpg X m sp (Nv+1)))
inductive Pln (F:Nat) (fb fd:Int):Pst->Bool->Nat->ByteArray->Nat->List Cel->Nat->List Cel->Bool->Prop
 | lock {gn:Bool} {lv:Nat} {key:ByteArray} {ref:Nat} {l:List Cel} {t w0:Nat} {P:Pg} {d0 d:Nat} {lE:List Cel} {ok:Bool} (way:FWs F key lv l (d0+1) t .root) (T:TgG F key l t w0 P) (hn:Nats l) (A:Pln F fb fd (.lk t w0 P) gn lv key ref l d lE ok):Pln F fb fd .st gn lv key ref l (d0+1+(P.xs.length+5)+d) lE ok
 | grow {lv:Nat} {key:ByteArray} {ref:Nat} {l:List Cel} {root W Nv d0 d:Nat} {lE:List Cel} {ok:Bool} (way:FWs F key lv l (d0+1) 0 .root) (hn:Nats l) (O:Gok F l lv root W Nv) (A:Pln F fb fd (.gr Nv) true lv key ref (glE F l W Nv lv root) d lE ok):Pln F fb fd .st false lv key ref l (d0+1+(gR F Nv lv root+4)+d) lE ok
 | there {gn:Bool} {lv:Nat} {key:ByteArray} {ref:Nat} {l:List Cel} {t w0:Nat} {P:Pg} (hin:has key P.xs=true) (ha:Asc P.xs) (hl:P.xs.length<=900):Pln F fb fd (.lk t w0 P) gn lv key ref l 1 (rl1 F t (lockW w0) (lkd F t w0 l)) true
 | insr {gn:Bool} {lv:Nat} {key:ByteArray} {ref:Nat} {l:List Cel} {t w0:Nat} {P:Pg} {m:Nat} {sp:ByteArray} {Nv d:Nat} {lE:List Cel} {ok:Bool} (hin:has key P.xs=false) (ha:Asc P.xs) (O:Iw F fb fd t (lockW w0) P (npg P key ref) m sp Cf.N Nv (lkd F t w0 l)) (A:Pln F fb fd (.ins t (lockW w0) P m sp Nv) gn lv key ref (lkd F t w0 l) d lE ok):Pln F fb fd (.lk t w0 P) gn lv key ref l (insD F Cf.N t (lockW w0) P (npg P key ref) m sp Nv+d) lE ok
 | in0 {gn:Bool} {lv:Nat} {key:ByteArray} {ref:Nat} {l:List Cel} {t wd:Nat} {P:Pg} {m:Nat} {sp:ByteArray} {Nv:Nat} (hf:¬ F<(npg P key ref).xs.length):Pln F fb fd (.ins t wd P m sp Nv) gn lv key ref l 1 (rl1 F t (endW (beginW wd)) (app l (wrsN F (Cf.N:Int) t wd P (npg P key ref)))) true
 | inF {gn:Bool} {lv:Nat} {key:ByteArray} {ref:Nat} {l:List Cel} {t wd:Nat} {P:Pg} {m:Nat} {sp:ByteArray} {Nv:Nat} (hf:F<(npg P key ref).xs.length) (hv:¬ Nv<Cf.N):Pln F fb fd (.ins t wd P m sp Nv) gn lv key ref l 1 (rl1 F t wd l) false
 | in1 {gn:Bool} {lv:Nat} {key:ByteArray} {ref:Nat} {l:List Cel} {t wd:Nat} {P:Pg} {m:Nat} {sp:ByteArray} {Nv d:Nat} {lE:List Cel} {ok:Bool} (hf:F<(npg P key ref).xs.length) (hv:Nv<Cf.N) (hlb:lv<4611686018427387904) (A:Pln F fb fd .st false (lv+1) sp (Nv+1) (rl1 F (Nv+1) 1 (rl1 F t (endW (beginW wd)) (ins2 F t wd P (npg P key ref) m sp Nv l))) d lE ok):Pln F fb fd (.ins t wd P m sp Nv) gn lv key ref l (2+d) lE ok
 | grF {lv:Nat} {key:ByteArray} {ref:Nat} {l:List Cel} {Nv:Nat} (hv:¬ Nv<Cf.N):Pln F fb fd (.gr Nv) true lv key ref l 0 l false
 | grY {lv:Nat} {key:ByteArray} {ref:Nat} {l:List Cel} {Nv d:Nat} {lE:List Cel} {ok:Bool} (hv:Nv<Cf.N) (A:Pln F fb fd .st true lv key ref l d lE ok):Pln F fb fd (.gr Nv) true lv key ref l d lE ok

def two7(w:World)(g4 id wd rid rwd:Nat)(P Q:Pg)(A A2:Option Addr)(c c2:Nat):Prop:=g4<w.heap.size/\∀ i u,([int .u64 id,int .u64 wd,int .i64 P.lv,.slice A P.xs.length c,.string P.hi,.bool P.la,int .u64 P.rt]++[int .u64 rid,int .u64 rwd,int .i64 Q.lv,.slice A2 Q.xs.length c2,.string Q.hi,.bool Q.la,int .u64 Q.rt])[i]? = some u->w.cell? ⟨g4,i,none⟩=some u
inductive PA (Z:Nat->Prop) (w:World) (F:Nat) (fb fd:Int) (b g p:Nat):List Cel->Nat->List Cel->Bool->Prop
 | lck {Zl:Nat->Prop} {x:Nat} {gr ins lo:Value} {gn:Bool} {lv:Nat} {key:ByteArray} {ref:Nat} {l0 l:List Cel} {t w0:Nat} {P:Pg} {s:Ls} {d1 d:Nat} {lE:List Cel} {ok:Bool} (hB:Blk w p 90 (postv (Cf.N:Int) F fb fd lv key ref 0 (.pointer (some ⟨x,0,none⟩)) gr ins lo false)) (hL:LAt Zl w F fb fd x key lv s) (hz:∀ i,Zl i->Z i/\i≠p) (hp:Z p) (hn:Nats l0) (T:TgG F key l0 t w0 P) (hr:Lrs F key lv l0 t w0 P (d1+1) s l) (A:Pln F fb fd (.lk t w0 P) gn lv key ref l0 d lE ok):PA Z w F fb fd b g p l (d1+1+d) lE ok
 | lcn {Zl:Nat->Prop} {x:Nat} {ins lo:Value} {lv:Nat} {key:ByteArray} {ref:Nat} {l:List Cel} {root W Nv:Nat} {s:Ls} {d1 d:Nat} {lE:List Cel} {ok:Bool} (hB:Blk w p 90 (postv (Cf.N:Int) F fb fd lv key ref 0 (.pointer (some ⟨x,0,none⟩)) (.pointer none) ins lo false)) (hL:LAt Zl w F fb fd x key lv s) (hz:∀ i,Zl i->Z i/\i≠p) (hp:Z p) (hn:Nats l) (hr:LrN F key lv l (d1+1) s) (O:Gok F l lv root W Nv) (A:Pln F fb fd (.gr Nv) true lv key ref (glE F l W Nv lv root) d lE ok):PA Z w F fb fd b g p l (d1+1+(gR F Nv lv root+4)+d) lE ok
 | gro {Zl:Nat->Prop} {x:Nat} {lk ins lo:Value} {lv:Nat} {key:ByteArray} {ref:Nat} {l0 l:List Cel} {root W Nv:Nat} {dg d:Nat} {lE:List Cel} {ok:Bool} (hB:Blk w p 90 (postv (Cf.N:Int) F fb fd lv key ref 1 lk (.pointer (some ⟨x,0,none⟩)) ins lo false)) (hG:GA Zl w F fb fd x lv l0 root W Nv l (dg+1)) (hz:∀ i,Zl i->Z i/\i≠p) (hp:Z p) (hx:Zl x) (O:Gok F l0 lv root W Nv) (A:Pln F fb fd (.gr Nv) true lv key ref (glE F l0 W Nv lv root) d lE ok):PA Z w F fb fd b g p l (dg+1+d) lE ok
 | ins {Zl:Nat->Prop} {x:Nat} {lk gr lo:Value} {gn:Bool} {lv:Nat} {key:ByteArray} {ref:Nat} {l0 l:List Cel} {t wd:Nat} {P:Pg} {m:Nat} {sp:ByteArray} {Nv:Nat} {s:Is} {di d:Nat} {lE:List Cel} {ok:Bool} (hB:Blk w p 90 (postv (Cf.N:Int) F fb fd lv key ref 2 lk gr (.pointer (some ⟨x,0,none⟩)) lo false)) (hI:IAt Zl w F (Cf.N:Int) fb fd x t wd P (npg P key ref) m sp Cf.N s) (I:Ipl F (Cf.N:Int) t wd P (npg P key ref) m sp Cf.N Nv l0 ⟨#[]⟩ 0 s l (di+1)) (htw:s.two=decide (F<(npg P key ref).xs.length)) (O:Iw F fb fd t wd P (npg P key ref) m sp Cf.N Nv l0) (hz:∀ i,Zl i->Z i/\i≠p) (hp:Z p) (A:Pln F fb fd (.ins t wd P m sp Nv) gn lv key ref l0 d lE ok):PA Z w F fb fd b g p l (di+1+d) lE ok
 | rl {lk gr ins:Value} {lv:Nat} {key:ByteArray} {ref:Nat} {full:Bool} {rq:Nat} {A:Option Addr} {c:Nat} {l:List Cel} {t wd:Nat} {P:Pg} (hB:Blk w p 90 (postv (Cf.N:Int) F fb fd lv key ref 3 lk gr ins (.slice (some ⟨rq,0,none⟩) 1 1) full)) (hH:Blk w rq 127 [int .u64 t,int .u64 wd,int .i64 P.lv,.slice A P.xs.length c,.string P.hi,.bool P.la,int .u64 P.rt]) (hp:Z p) (hrp:rq≠p) (hrz:Z rq) (hwd:wd<18446744073709551616) (h0:full=false->ref=0):PA Z w F fb fd b g p l 1 (rl1 F t wd l) (!full)
 | ra {lk gr ins:Value} {lv:Nat} {key:ByteArray} {ref:Nat} {g4 cc:Nat} {A A2:Option Addr} {c c2:Nat} {l:List Cel} {t wd rwd:Nat} {P Q:Pg} {d:Nat} {lE:List Cel} {ok:Bool} (hB:Blk w p 90 (postv (Cf.N:Int) F fb fd lv key ref 3 lk gr ins (.slice (some ⟨g4,0,none⟩) 2 cc) false)) (hcc:2<=cc) (hH:two7 w g4 t wd ref rwd P Q A A2 c c2) (hp:Z p) (hrp:g4≠p) (hrz:Z g4) (hwd:wd<18446744073709551616) (hrwd:rwd<18446744073709551616) (hr0:ref≠0) (hlb:lv<4611686018427387904) (A':Pln F fb fd .st false (lv+1) key ref (rl1 F ref rwd (rl1 F t wd l)) d lE ok):PA Z w F fb fd b g p l (2+d) lE ok
 | rb {lk gr ins:Value} {lv:Nat} {key:ByteArray} {ref:Nat} {g4 cc:Nat} {A A2:Option Addr} {c c2:Nat} {l:List Cel} {t wd rwd:Nat} {P Q:Pg} {d:Nat} {lE:List Cel} {ok:Bool} (hB:Blk w p 90 (postv (Cf.N:Int) F fb fd lv key ref 3 lk gr ins (.slice (some ⟨g4,7,none⟩) 1 cc) false)) (hcc:1<=cc) (hH:two7 w g4 t wd ref rwd P Q A A2 c c2) (hp:Z p) (hrp:g4≠p) (hrz:Z g4) (hrwd:rwd<18446744073709551616) (hr0:ref≠0) (hlb:lv<4611686018427387904) (A':Pln F fb fd .st false (lv+1) key ref (rl1 F ref rwd l) d lE ok):PA Z w F fb fd b g p l (1+d) lE ok
 | don {lk gr ins lo:Value} {lv:Nat} {key:ByteArray} {ref:Nat} {full:Bool} {l:List Cel} {ok:Bool} (hB:Blk w p 90 (postv (Cf.N:Int) F fb fd lv key ref (if ok then 4 else 5) lk gr ins lo full)) (hp:Z p):PA Z w F fb fd b g p l 0 l ok
section
variable {Z Y:Nat->Prop} {w w':World} {F:Nat} {fb fd:Int} {b g p:Nat} {l lE:List Cel} {d:Nat} {ok:Bool}
theorem PA.start{gn:Bool}{lv:Nat}{key:ByteArray}{ref:Nat}(pl:Pln F fb fd .st gn lv key ref l d lE ok){Zl:Nat->Prop}{x:Nat}{gr ins lo:Value}(hB:Blk w p 90 (postv (Cf.N:Int) F fb fd lv key ref 0 (.pointer (some ⟨x,0,none⟩)) gr ins lo false))(hgr:gn=false->gr=.pointer none)(hL:LAt Zl w F fb fd x key lv (.fnd .root))(hz:∀ i,Zl i->Z i/\i≠p)(hp:Z p):PA Z w F fb fd b g p l d lE ok:=by
 cases pl with
 | lock way T hn A =>
  rename_i t w0 P d0 d1
  have:=PA.lck (Z:=Z) (b:=b) (g:=g) (d1:=d0+(P.xs.length+5)) hB hL hz hp hn T (by
   have h:=Lrs.fnd (w0:=w0) (P:=P) way
   rwa [show d0+1+(P.xs.length+5)=d0+(P.xs.length+5)+1 by omega] at h) A
  rwa [show d0+(P.xs.length+5)+1+d1=d0+1+(P.xs.length+5)+d1 by omega] at this
 | grow way hn O A =>
  rename_i root W Nv d0 d1
  have hg:=hgr rfl;subst hg;exact .lcn hB hL hz hp hn (.fnd way) O A
theorem two_of{w:World}{base g4 cc id wd rid rwd:Nat}{P Q:Pg}{A A2:Option Addr}{c c2:Nat}(h:w.ownsRow base 127 7 (.slice (some ⟨g4,0,none⟩) 2 cc) 2 ([int .u64 id,int .u64 wd,int .i64 P.lv,.slice A P.xs.length c,.string P.hi,.bool P.la,int .u64 P.rt]++[int .u64 rid,int .u64 rwd,int .i64 Q.lv,.slice A2 Q.xs.length c2,.string Q.hi,.bool Q.la,int .u64 Q.rt])):two7 w g4 id wd rid rwd P Q A A2 c c2:=by
 obtain⟨g',cap',rest,e, -,hB⟩:=own_blk h (by omega);cases e;refine⟨hB.lt,λ i u hu=>hB.cell ?_⟩;rw[List.getElem?_append_left (List.getElem?_eq_some_iff.1 hu).1];exact hu
theorem cap_of{w:World}{base g4 cc:Nat}{e:TypeId}{xs:List Value}(h:w.ownsRow base e 7 (.slice (some ⟨g4,0,none⟩) 2 cc) 2 xs):2<=cc:=by
 rcases h.2 with⟨h', -⟩|⟨g',cap,cur,h', -, -,h2, -⟩
 ·cases h'
 ·cases h';exact h2
theorem post_ph{lv:Nat}{key:ByteArray}{ref:Nat}{ph:Int}{lk gr ins lo:Value}{full:Bool}(h:Blk w p 90 (postv (Cf.N:Int) F fb fd lv key ref ph lk gr ins lo full)):w.cell? ⟨p,13,none⟩=some (int .i64 ph):=h.k 13 rfl
theorem newLock_po(F:Nat)(fb fd:Int)(key:ByteArray)(lv:Nat)(B:Nat)(w1:World)(hB:B<=w1.heap.size):Calls prog 118 #[.agg #[int .i64 1,int .i64 2,int .i64 Cf.N,int .i64 Cf.C,int .i64 Cf.R,int .i64 F,int .u64 Cf.K,int .i64 10,int .i64 fb,int .i64 fd],.string key,int .i64 lv] w1 λ e w'=>∃ x,e=.returned (.pointer (some ⟨x,0,none⟩))/\(∃ Zl:Nat->Prop,LAt Zl w' F fb fd x key lv (.fnd .root)/\∀ i,Zl i->B<=i/\i<w'.heap.size)/\Kept (λ_=>False) w1 w':=by
 refine(newLock_at F fb fd key lv w1).mono ?_;rintro e w' ⟨x,Zl,he,h1,h2,h3⟩;exact⟨x,he,⟨Zl,h1,λ i hi=>⟨by have:=h2 i hi;omega,(h2 i hi).2⟩⟩,h3⟩
theorem lat_po{x:Nat}{key:ByteArray}{lv B p:Nat}{w1 w2:World}(hp:p<B)(h:∃ Zl:Nat->Prop,LAt Zl w1 F fb fd x key lv (.fnd .root)/\∀ i,Zl i->B<=i/\i<w1.heap.size)(hk:Kept (λ j=>j=p) w1 w2):∃ Zl:Nat->Prop,LAt Zl w2 F fb fd x key lv (.fnd .root)/\∀ i,Zl i->B<=i/\i<w2.heap.size:=by
 obtain⟨Zl,h1,h2⟩:=h;exact⟨Zl,h1.kept hk (λ i hi e=>by have:=h2 i hi;omega),λ i hi=>⟨(h2 i hi).1,Nat.lt_of_lt_of_le (h2 i hi).2 hk.size⟩⟩
theorem kept_zl{Zl:Nat->Prop}{w w':World}(h:Kept (λ j=>Zl j\/j=b\/j=g) w w')(hz:∀ i,Zl i->Z i/\i≠p):Kept (λ j=>Z j\/j=b\/j=g) w w':=h.mono (λ j e=>by
 rcases e with e|e|e
 ·exact .inl (hz j e).1
 ·exact .inr (.inl e)
 ·exact .inr (.inr e))
theorem keptZ{w w1 w2:World}(h1:Kept (λ j=>Z j\/j=b\/j=g) w w1)(h2:Kept (λ j=>j=p) w1 w2)(hp:Z p):Kept (λ j=>Z j\/j=b\/j=g) w w2:=h1.trans h2 (λ i _ e=>.inl (e ▸ hp))
theorem pa_step(h4:4<=F)(h6:F<=6)(hd:Reach3 10 fb fd)(I:PA Z w F fb fd b g p l (d+1) lE ok)(k:Nat)(hm:Mem w b g l k)(hb:¬ Z b)(hg:¬ Z g)(hk:k<9223372036854775808)(hzl:∀ i,Z i->i<w.heap.size) :
  Calls prog 16 #[.pointer (some ⟨p,0,none⟩),.pointer (some ⟨b,0,none⟩)] w λ e w'=>e=.returned (.bool (d==0))/\∃ l',Mem w' b g l' (k+1)/\PA (Zm Z w w') w' F fb fd b g p l' d lE ok/\Kept (λ j=>Z j\/j=b\/j=g) w w':=by
 have hl:=limF (F:=F) h4 h6;have hN1:=Cf.n1;have hN2:=Cf.n2;have hz0:∀{w':World} {j:Nat},Z j->Zm Z w w' j:=λ h=>.inl h;generalize hD:d+1=D at I;cases I with
 | lck hB hL hz hp hn T hr A =>
  rename_i Zl x gr ins lo gn lv key ref l0 t w0 P s d1 d2
  have hpb:p≠b:=λ e=>hb (e ▸ hp);have hpg:p≠g:=λ e=>hg (e ▸ hp);obtain⟨hnm,hok,hr1⟩:=hr.step h4 h6 hn T;have hfin:=hr.fin;have hfin1:=hr1.fin;have HS:=lock_go F h4 h6 fb fd hd Zl x key lv s w b g l k hm hk (λ e=>hb (hz _ e).1) (λ e=>hg (hz _ e).1) hnm hok hL;rw[show s.fin=false from by rw[hfin];simp] at HS;have hpl:=hB.lt;have hzn:∀{w':World} i,Zn Zl w w' i->Zm Z w w' i/\i≠p:=λ i hi=>by
   rcases hi with hi|hi
   ·exact⟨.inl (hz i hi).1,(hz i hi).2⟩
   ·exact⟨.inr hi,by omega⟩
  have hQp:∀{w':World},Kept (λ i=>Zl i\/i=b\/i=g) w w'->¬ (Zl p\/p=b\/p=g):=λ_ e=>by rcases e with e|e|e;exact(hz p e).2 rfl;exact hpb e;exact hpg e
  generalize hs':lgo F key lv l s=s' at *;generalize hl':lmem F l s=l' at *
  by_cases hd1:d1=0
  ·subst hd1
   rw[hfin1] at HS;have e0:s'=.lck t (lockW w0) (got P (P.xs.length+3))/\l'=lkd F t w0 l0:=by
    generalize hd0:(0:Nat)=D0 at hr1;cases hr1 with
    | fnd h=>omega
    | seek hN=>omega
    | ready=>omega
    | own hr=>omega
    | lck=>exact⟨rfl,rfl⟩
   obtain⟨rfl,rfl⟩:=e0;have HS1:Calls prog 40 #[.pointer (some ⟨x,0,none⟩),.pointer (some ⟨b,0,none⟩)] w λ e w'=>e=.returned (.bool true)/\(Mem w' b g (lkd F t w0 l0) (k+1)/\LAt (Zn Zl w w') w' F fb fd x key lv (.lck t (lockW w0) (got P (P.xs.length+3)))/\Kept (λ i=>Zl i\/i=b\/i=g) w w'):=HS.mono (λ e w' hh=>⟨hh.1,hh.2.1,hh.2.2.1,hh.2.2.2⟩);have hge:=got_end P;have hH:∀ w1,LAt (Zn Zl w w1) w1 F fb fd x key lv (.lck t (lockW w0) (got P (P.xs.length+3)))->Calls prog 79 #[.pointer (some ⟨x,0,none⟩)] w1 λ e w'=>∃(A:Option Addr) (c:Nat),e=.returned (.agg #[int .u64 t,int .u64 (lockW w0:Int),int .i64 P.lv,.slice A P.xs.length c,.string P.hi,.bool P.la,int .u64 P.rt])/\Rs w' A c P.xs/\Kept (λ_=>False) w1 w':=by
    intro w1 hL1;refine(held_lck F h6 fb fd _ x key lv t (lockW w0) _ w1 hL1).mono ?_;rintro e w' ⟨A,c,rfl,h1,h2,h3⟩;have e1:(got P (P.xs.length+3)).lv=P.lv:=by have h9:=congrArg Pg.lv hge;exact h9
    have e2:(got P (P.xs.length+3)).xs=P.xs:=by have h9:=congrArg Pg.xs hge;exact h9
    have e3:(got P (P.xs.length+3)).hi=P.hi:=by have h9:=congrArg Pg.hi hge;exact h9
    have e4:(got P (P.xs.length+3)).la=P.la:=by have h9:=congrArg Pg.la hge;exact h9
    have e5:(got P (P.xs.length+3)).rt=P.rt:=by have h9:=congrArg Pg.rt hge;exact h9
    refine⟨A,c,?_,by rw[e2] at h1;exact h1,h3⟩;unfold hval;rw[e1,e2,e3,e4,e5]
   have ht0:¬ t=0:=by have:=T.one;omega
   have hwl:=lockW_lt (T.word hn);cases A with
   | there hin ha hlen =>
    have hE:∀ w1,(Mem w1 b g (lkd F t w0 l0) (k+1)/\LAt (Zn Zl w w1) w1 F fb fd x key lv (.lck t (lockW w0) (got P (P.xs.length+3)))/\Kept (λ i=>Zl i\/i=b\/i=g) w w1)->Calls prog 41 #[.pointer (some ⟨p,0,none⟩)] w1 λ e w'=>e=.returned (.tuple #[])/\(w'.cell? ⟨p,13,none⟩=some (int .i64 3)/\Mem w' b g (lkd F t w0 l0) (k+1)/\PA (Zm Z w w') w' F fb fd b g p (lkd F t w0 l0) 1 (rl1 F t (lockW w0) (lkd F t w0 l0)) true/\Kept (λ j=>Z j\/j=b\/j=g) w w'):=by
     rintro w1 ⟨hM1,hL1,hK1⟩;have hs1:=hK1.size;refine(po_enterT (Cf.N:Int) F fb fd p lv key ref 0 gr ins lo false w1 x t (lockW w0) P (hH w1 hL1) ht0 (by omega) ha hin (hK1.blk hB (hQp hK1))).mono ?_;rintro e w' ⟨rq,A,c,rfl,hB2,hH2,hrq,hK2⟩;have hrl:=hH2.lt;exact⟨rfl,post_ph hB2,hM1.kept hK2 (Ne.symm hpb) (Ne.symm hpg),.rl (full:=false) hB2 hH2 (.inl hp) (by omega) (.inr ⟨by omega,hrl⟩) hwl (λ_=>rfl),keptZ (kept_zl hK1 hz) hK2 hp⟩
    refine(po_step0_3 (Cf.N:Int) F fb fd p lv key ref gr ins lo false x b w hB _ _ HS1 hE (λ w' q=>q.1)).mono ?_;rintro e w' ⟨rfl, -,hM,hP,hK⟩;obtain rfl:d=1:=by omega
    exact⟨rfl,_,hM,hP,hK⟩
   | insr hin ha O A =>
    rename_i m sp Nv d3
    have hE:∀ w1,(Mem w1 b g (lkd F t w0 l0) (k+1)/\LAt (Zn Zl w w1) w1 F fb fd x key lv (.lck t (lockW w0) (got P (P.xs.length+3)))/\Kept (λ i=>Zl i\/i=b\/i=g) w w1)->Calls prog 41 #[.pointer (some ⟨p,0,none⟩)] w1 λ e w'=>e=.returned (.tuple #[])/\(w'.cell? ⟨p,13,none⟩=some (int .i64 2)/\Mem w' b g (lkd F t w0 l0) (k+1)/\PA (Zm Z w w') w' F fb fd b g p (lkd F t w0 l0) (insD F Cf.N t (lockW w0) P (npg P key ref) m sp Nv+d3) lE ok/\Kept (λ j=>Z j\/j=b\/j=g) w w'):=by
     rintro w1 ⟨hM1,hL1,hK1⟩;have hs1:=hK1.size;have hpl2:=O.pl;refine(po_enterI (Cf.N:Int) F fb fd p lv key ref 0 gr ins lo false w1 x t (lockW w0) P (hH w1 hL1) ht0 (by omega) ha hin (hK1.blk hB (hQp hK1)) (λ xi w2=>∃(Zi:Nat->Prop) (s:Is) (di:Nat),IAt Zi w2 F (Cf.N:Int) fb fd xi t (lockW w0) P (npg P key ref) m sp Cf.N s/\Ipl F (Cf.N:Int) t (lockW w0) P (npg P key ref) m sp Cf.N Nv (lkd F t w0 l0) ⟨#[]⟩ 0 s (lkd F t w0 l0) di/\s.two=decide (F<(npg P key ref).xs.length)/\di=insD F Cf.N t (lockW w0) P (npg P key ref) m sp Nv/\0<di/\∀ j,Zi j->w.heap.size<=j/\j<w2.heap.size) ?_ ?_).mono ?_
     ·intro w2 A2 c2 hR2 hK2
      have hs2:=hK2.size;refine(new_startW F fb fd t (lockW w0) Cf.N Nv P A2 c2 key ref m sp (lkd F t w0 l0) w2 O hR2 ha hin).mono ?_;rintro e w3 ⟨i,Zi,s,di,rfl,h1,h2,h3,h4',h5,h6'⟩;exact⟨i,rfl,⟨Zi,s,di,h1,h2,h3,h4'.2,h4'.1,λ j hj=>⟨by have:=h5 j hj;omega,(h5 j hj).2⟩⟩,h6'⟩
     ·rintro xi w2 w3 ⟨Zi,s,di,h1,h2,h3,h3',h4',h5⟩ hk3
      exact⟨Zi,s,di,h1.kept hk3 (λ j hj e=>by have:=h5 j hj;omega),h2,h3,h3',h4',λ j hj=>⟨(h5 j hj).1,Nat.lt_of_lt_of_le (h5 j hj).2 hk3.size⟩⟩
     ·rintro e w' ⟨xi,rfl,⟨Zi,s,di,h1,h2,h3,h3',h4',h5⟩,hB2,hK2⟩
      obtain⟨di',rfl⟩:∃ di',di=di'+1:=⟨di-1,by omega⟩;refine⟨rfl,post_ph hB2,hM1.kept hK2 (Ne.symm hpb) (Ne.symm hpg),?_,keptZ (kept_zl hK1 hz) hK2 hp⟩;rw[←h3'];exact .ins hB2 h1 h2 h3 O (λ j hj=>⟨.inr (h5 j hj),by have:=h5 j hj;omega⟩) (.inl hp) A
    refine(po_step0_2 (Cf.N:Int) F fb fd p lv key ref gr ins lo false x b w hB _ _ HS1 hE (λ w' q=>q.1)).mono ?_;rintro e w' ⟨rfl, -,hM,hP,hK⟩;have hpos:0<insD F Cf.N t (lockW w0) P (npg P key ref) m sp Nv:=insD_pos;have hdd:d=insD F Cf.N t (lockW w0) P (npg P key ref) m sp Nv+d3:=by omega
    exact⟨by rw[show (d==0)=false from by simp;omega],_,hM,by rw[hdd];exact hP,hK⟩
  ·obtain⟨d3,rfl⟩:∃ d3,d1=d3+1:=⟨d1-1,by omega⟩
   rw[hfin1,show (d3+1==0)=false from rfl] at HS;have HS1:Calls prog 40 #[.pointer (some ⟨x,0,none⟩),.pointer (some ⟨b,0,none⟩)] w λ e w'=>e=.returned (.bool false)/\(Mem w' b g l' (k+1)/\LAt (Zn Zl w w') w' F fb fd x key lv s'/\Kept (λ i=>Zl i\/i=b\/i=g) w w'):=HS.mono (λ e w' hh=>⟨hh.1,hh.2.1,hh.2.2.1,hh.2.2.2⟩);refine(po_step0 (Cf.N:Int) F fb fd p lv key ref gr ins lo false x b w hB _ HS1 (λ w' q=>post_ph (q.2.2.blk hB (hQp q.2.2)))).mono ?_;rintro e w' ⟨rfl,hM,hL1,hK⟩;refine⟨by rw[show (d==0)=false from by simp;omega],_,hM,?_,kept_zl hK hz⟩;rw[show d=d3+1+d2 by omega];exact .lck (hK.blk hB (hQp hK)) hL1 hzn (.inl hp) hn T hr1 A
 | lcn hB hL hz hp hn hr O A =>
  rename_i Zl x ins lo lv key ref root W Nv s d1 d2
  have hpb:p≠b:=λ e=>hb (e ▸ hp);have hpg:p≠g:=λ e=>hg (e ▸ hp);obtain⟨hok,hlm,hr1,hfin1,hfin⟩:=hr.step hn;have HS:=lock_go F h4 h6 fb fd hd Zl x key lv s w b g l k hm hk (λ e=>hb (hz _ e).1) (λ e=>hg (hz _ e).1) hn hok hL;rw[hfin,hlm] at HS;have hpl:=hB.lt;have hzn:∀{w':World} i,Zn Zl w w' i->Zm Z w w' i/\i≠p:=λ i hi=>by
   rcases hi with hi|hi
   ·exact⟨.inl (hz i hi).1,(hz i hi).2⟩
   ·exact⟨.inr hi,by omega⟩
  have hQp:∀{w':World},Kept (λ i=>Zl i\/i=b\/i=g) w w'->¬ (Zl p\/p=b\/p=g):=λ_ e=>by rcases e with e|e|e;exact(hz p e).2 rfl;exact hpb e;exact hpg e
  generalize hs':lgo F key lv l s=s' at *
  by_cases hd1:d1=0
  ·subst hd1
   rw[hfin1] at HS;have e0:s'=.bad:=by
    generalize hd0:(0:Nat)=D0 at hr1;cases hr1 with
    | fnd h=>omega
    | bad=>rfl
   subst e0;have HS1:Calls prog 40 #[.pointer (some ⟨x,0,none⟩),.pointer (some ⟨b,0,none⟩)] w λ e w'=>e=.returned (.bool true)/\(Mem w' b g l (k+1)/\LAt (Zn Zl w w') w' F fb fd x key lv .bad/\Kept (λ i=>Zl i\/i=b\/i=g) w w'):=HS.mono (λ e w' hh=>⟨hh.1,hh.2.1,hh.2.2.1,hh.2.2.2⟩);have hE:∀ w1,(Mem w1 b g l (k+1)/\LAt (Zn Zl w w1) w1 F fb fd x key lv .bad/\Kept (λ i=>Zl i\/i=b\/i=g) w w1)->Calls prog 41 #[.pointer (some ⟨p,0,none⟩)] w1 λ e w'=>e=.returned (.tuple #[])/\(w'.cell? ⟨p,13,none⟩=some (int .i64 1)/\Mem w' b g l (k+1)/\PA (Zm Z w w') w' F fb fd b g p l (gR F Nv lv root+4+d2) lE ok/\Kept (λ j=>Z j\/j=b\/j=g) w w'):=by
    rintro w1 ⟨hM1,hL1,hK1⟩;have hs1:=hK1.size;refine(po_enterG (Cf.N:Int) F fb fd p lv key ref 0 ins lo false w1 x 0 cs0.pg ?_ (hK1.blk hB (hQp hK1)) (λ xg w2=>∃ Zg:Nat->Prop,GA Zg w2 F fb fd xg lv l root W Nv l (gR F Nv lv root+4)/\Zg xg/\∀ j,Zg j->w.heap.size<=j/\j<w2.heap.size) ?_ ?_).mono ?_
    ·refine(held_bad F fb fd _ x key lv w1 hL1).mono ?_
     rintro e w' ⟨rfl,hK⟩;exact⟨none,0,rfl,Rs.nil _,hK⟩
    ·intro w2 hK2
     have hs2:=hK2.size;refine(newGrowth_any Cf.N F fb fd lv (by omega) w2).mono ?_;rintro e w3 ⟨xg,q,t,rfl,h1,h2,h3,h4',h5,h6',h7⟩;have hxl:=h4'.lt;exact⟨xg,rfl,⟨λ j=>j=xg\/j=q\/j=t,.a0 h4' h5 h6' (.inl rfl) (.inr (.inl rfl)) (.inr (.inr rfl)) (by omega) (by omega) (by omega),.inl rfl,λ j hj=>by rcases hj with rfl|rfl|rfl<;>omega⟩,h7⟩
    ·rintro xg w2 w3 ⟨Zg,h1,h2,h3⟩ hk3
     exact⟨Zg,h1.kept hk3 (λ j hj e=>by have:=h3 j hj;omega),h2,λ j hj=>⟨(h3 j hj).1,Nat.lt_of_lt_of_le (h3 j hj).2 hk3.size⟩⟩
    ·rintro e w' ⟨xg,rfl,⟨Zg,h1,h2,h3⟩,hB2,hK2⟩
     exact⟨rfl,post_ph hB2,hM1.kept hK2 (Ne.symm hpb) (Ne.symm hpg),.gro (dg:=gR F Nv lv root+3) hB2 h1 (λ j hj=>⟨.inr (h3 j hj),by have:=h3 j hj;omega⟩) (.inl hp) h2 O A,keptZ (kept_zl hK1 hz) hK2 hp⟩
   refine(po_step0_1 (Cf.N:Int) F fb fd p lv key ref (.pointer none) ins lo false x b w hB _ _ HS1 hE (λ w' q=>q.1)).mono ?_;rintro e w' ⟨rfl, -,hM,hP,hK⟩;have hdd:d=gR F Nv lv root+4+d2:=by omega
   exact⟨by rw[show (d==0)=false from by simp;omega],_,hM,by rw[hdd];exact hP,hK⟩
  ·obtain⟨d3,rfl⟩:∃ d3,d1=d3+1:=⟨d1-1,by omega⟩
   rw[hfin1,show (d3+1==0)=false from rfl] at HS;have HS1:Calls prog 40 #[.pointer (some ⟨x,0,none⟩),.pointer (some ⟨b,0,none⟩)] w λ e w'=>e=.returned (.bool false)/\(Mem w' b g l (k+1)/\LAt (Zn Zl w w') w' F fb fd x key lv s'/\Kept (λ i=>Zl i\/i=b\/i=g) w w'):=HS.mono (λ e w' hh=>⟨hh.1,hh.2.1,hh.2.2.1,hh.2.2.2⟩);refine(po_step0 (Cf.N:Int) F fb fd p lv key ref (.pointer none) ins lo false x b w hB _ HS1 (λ w' q=>post_ph (q.2.2.blk hB (hQp q.2.2)))).mono ?_;rintro e w' ⟨rfl,hM,hL1,hK⟩;refine⟨by rw[show (d==0)=false from by simp;omega],_,hM,?_,kept_zl hK hz⟩;rw[show d=d3+1+(gR F Nv lv root+4)+d2 by omega];exact .lcn (hK.blk hB (hQp hK)) hL1 hzn (.inl hp) hn hr1 O A
 | gro hB hG hz hp hx O A =>
  rename_i Zl x lk ins lo lv key ref l0 root W Nv dg d2
  have hpb:p≠b:=λ e=>hb (e ▸ hp);have hpg:p≠g:=λ e=>hg (e ▸ hp);have HS:=gro_step h4 h6 hd O hG b g k hm (λ e=>hb (hz _ e).1) (λ e=>hg (hz _ e).1) hk;have hpl:=hB.lt;have hzn:∀{w':World} i,Zm Zl w w' i->Zm Z w w' i/\i≠p:=λ i hi=>by
   rcases hi with hi|hi
   ·exact⟨.inl (hz i hi).1,(hz i hi).2⟩
   ·exact⟨.inr hi,by omega⟩
  have hQp:∀{w':World},Kept (λ i=>Zl i\/i=b\/i=g) w w'->¬ (Zl p\/p=b\/p=g):=λ_ e=>by rcases e with e|e|e;exact(hz p e).2 rfl;exact hpb e;exact hpg e
  have hxp:=(hz x hx).2
  by_cases hd1:dg=0
  ·subst hd1
   have HS1:Calls prog 42 #[.pointer (some ⟨x,0,none⟩),.pointer (some ⟨b,0,none⟩)] w λ e w'=>e=.returned (.bool true)/\(Mem w' b g (glE F l0 W Nv lv root) (k+1)/\w'.cell? ⟨x,16,none⟩=some (.bool (gful Nv))/\Kept (λ i=>Zl i\/i=b\/i=g) w w'):=HS.mono (λ e w' hh=>by
    obtain⟨h1,lc,h2, -,h3,h4'⟩:=hh;obtain⟨h5,h6'⟩:=h3 rfl;exact⟨h1,by rw[←h5];exact h2,h6',h4'⟩)
   cases A with
   | grF hv =>
    have hgf:gful Nv=true:=by unfold gful;simp[hv]
    rw[hgf] at HS1;refine(po_step1_5 (Cf.N:Int) F fb fd p lv key ref lk ins lo false x b w hB _ (λ w'=>w'.cell? ⟨p,13,none⟩=some (int .i64 5)/\Mem w' b g (glE F l0 W Nv lv root) (k+1)/\PA (Zm Z w w') w' F fb fd b g p (glE F l0 W Nv lv root) 0 (glE F l0 W Nv lv root) false/\Kept (λ j=>Z j\/j=b\/j=g) w w') HS1 ?_ (λ w' q=>q.1)).mono ?_
    ·rintro w1 ⟨hM1,hc1,hK1⟩
     refine(po_climb5 (Cf.N:Int) F fb fd p lv key ref 1 lk ins lo false w1 x hc1 (hK1.blk hB (hQp hK1))).mono ?_;rintro e w' ⟨rfl,hB2,hK2⟩;exact⟨rfl,post_ph hB2,hM1.kept hK2 (Ne.symm hpb) (Ne.symm hpg),.don (ok:=false) hB2 (.inl hp),keptZ (kept_zl hK1 hz) hK2 hp⟩
    ·rintro e w' ⟨rfl, -,hM,hP,hK⟩
     obtain rfl:d=0:=by omega
     exact⟨rfl,_,hM,hP,hK⟩
   | grY hv A =>
    have hgf:gful Nv=false:=by unfold gful;simp[hv]
    rw[hgf] at HS1;have hd2:0<d2:=by cases A<;>omega
    refine(po_step1_0 (Cf.N:Int) F fb fd p lv key ref lk ins lo false x b w hB _ (λ w'=>w'.cell? ⟨p,13,none⟩=some (int .i64 0)/\Mem w' b g (glE F l0 W Nv lv root) (k+1)/\PA (Zm Z w w') w' F fb fd b g p (glE F l0 W Nv lv root) d2 lE ok/\Kept (λ j=>Z j\/j=b\/j=g) w w') HS1 ?_ (λ w' q=>q.1)).mono ?_
    ·rintro w1 ⟨hM1,hc1,hK1⟩
     have hs1:=hK1.size;refine(po_climb0 (Cf.N:Int) F fb fd p lv key ref 1 lk ins lo false w1 x hc1 (hK1.blk hB (hQp hK1)) _ (λ w2 hK2=>newLock_po F fb fd key lv w.heap.size w2 (by have:=hK2.size;omega)) (λ y w2 w3=>lat_po hpl)).mono ?_;rintro e w' ⟨y,rfl,⟨Zy,h1,h2⟩,hB2,hK2⟩;exact⟨rfl,post_ph hB2,hM1.kept hK2 (Ne.symm hpb) (Ne.symm hpg),PA.start A hB2 (λ e=>by cases e) h1 (λ j hj=>⟨.inr (h2 j hj),by have:=h2 j hj;omega⟩) (.inl hp),keptZ (kept_zl hK1 hz) hK2 hp⟩
    ·rintro e w' ⟨rfl, -,hM,hP,hK⟩
     have hdd:d=d2:=by omega
     exact⟨by rw[show (d==0)=false from by simp;omega],_,hM,by rw[hdd];exact hP,hK⟩
  ·obtain⟨d3,rfl⟩:∃ d3,dg=d3+1:=⟨dg-1,by omega⟩
   rw[show (d3+1==0)=false from rfl] at HS;refine(po_step1 (Cf.N:Int) F fb fd p lv key ref lk ins lo false x b w hB _ HS (λ w' q=>by obtain⟨lc, -, -, -,h4'⟩:=q;exact post_ph (h4'.blk hB (hQp h4')))).mono ?_;rintro e w' ⟨rfl,lc,hM,hG1, -,hK⟩;refine⟨by rw[show (d==0)=false from by simp;omega],_,hM,?_,kept_zl hK hz⟩;rw[show d=d3+1+d2 by omega];exact .gro (hK.blk hB (hQp hK)) (hG1 (by omega)) hzn (.inl hp) (.inl hx) O A
 | ins hB hI I htw O hz hp A =>
  rename_i Zl x lk gr lo gn lv key ref l0 t wd P m sp Nv s di d2
  have hpb:p≠b:=λ e=>hb (e ▸ hp);have hpg:p≠g:=λ e=>hg (e ▸ hp);have HS:=ir_stepW O htw hI I (by omega) b g k hm (λ e=>hb (hz _ e).1) (λ e=>hg (hz _ e).1) hk;have hpl:=hB.lt;have hzn:∀{w':World} i,Zm Zl w w' i->Zm Z w w' i/\i≠p:=λ i hi=>by
   rcases hi with hi|hi
   ·exact⟨.inl (hz i hi).1,(hz i hi).2⟩
   ·exact⟨.inr hi,by omega⟩
  have hQp:∀{w':World},Kept (λ i=>Zl i\/i=b\/i=g) w w'->¬ (Zl p\/p=b\/p=g):=λ_ e=>by rcases e with e|e|e;exact(hz p e).2 rfl;exact hpb e;exact hpg e
  have hXl:=npg_length P key ref;have hpl2:=O.pl;have hxl2:=O.xl;have hwd:=O.word
  by_cases hd1:di=0
  ·subst hd1
   have HS1:Calls prog 44 #[.pointer (some ⟨x,0,none⟩),.pointer (some ⟨b,0,none⟩)] w λ e w'=>e=.returned (.bool true)/\(∃(s':Is) (l':List Cel),Mem w' b g l' (k+1)/\IAt (Zm Zl w w') w' F (Cf.N:Int) fb fd x t wd P (npg P key ref) m sp Cf.N s'/\Ipl F (Cf.N:Int) t wd P (npg P key ref) m sp Cf.N Nv l0 ⟨#[]⟩ 0 s' l' 0/\Kept (λ i=>Zl i\/i=b\/i=g) w w'/\s'.two=decide (F<(npg P key ref).xs.length)):=HS.mono (λ e w' hh=>by
    obtain⟨s',l',h1,h2,h3,h4',h5,h6'⟩:=hh;exact⟨h1,s',l',h2,h3,h4',h5,by rw[h6'];exact htw⟩)
   refine(po_step2_3 (Cf.N:Int) F fb fd p lv key ref lk gr lo false x b w hB _ (λ w'=>w'.cell? ⟨p,13,none⟩=some (int .i64 3)/\∃ l',Mem w' b g l' (k+1)/\PA (Zm Z w w') w' F fb fd b g p l' d2 lE ok/\0<d2/\Kept (λ j=>Z j\/j=b\/j=g) w w') HS1 ?_ (λ w' q=>q.1)).mono ?_
   ·rintro w1 ⟨s',l',hM1,hI1,I1,hK1,htw1⟩
    have hs1:=hK1.size;have hB1:=hK1.blk hB (hQp hK1);have hzn1:=hzn (w':=w1);have hIp:∀{w2:World},Kept (λ j=>j=p) w1 w2->IAt (Zm Zl w w1) w2 F (Cf.N:Int) fb fd x t wd P (npg P key ref) m sp Cf.N s':=λ h=>hI1.kept h (λ j hj e=>(hzn1 j hj).2 e);have hIf:∀{w2:World},Kept (λ_=>False) w1 w2->IAt (Zm Zl w w1) w2 F (Cf.N:Int) fb fd x t wd P (npg P key ref) m sp Cf.N s':=λ h=>hI1.kept h (λ j hj e=>e);have hIw:∀{w2:World},Kept (λ j=>j=p) w1 w2->Kept (λ j=>Z j\/j=b\/j=g) w w2:=λ h=>keptZ (kept_zl hK1 hz) h hp;generalize hd0:(0:Nat)=D0 at I1;cases I1 with
    | tak0 hv=>omega
    | none hv=>omega
    | tak1 hv=>omega
    | fil hv hj=>omega
    | wri1 hv hj=>omega
    | wri0 hj=>omega
    | don0 =>
     have hf:¬ F<(npg P key ref).xs.length:=λ e=>by rw[decide_eq_true e] at htw1;cases htw1
     cases A with
     | inF hf' hv=>exact absurd hf' hf
     | in1 hf' hv hlb A=>exact absurd hf' hf
     | in0 hf' =>
      refine(po_leave (Cf.N:Int) F fb fd p lv key ref 2 lk gr lo false x t (endW (beginW wd)) 0 0 0 (npg P key ref) ⟨0,⟨#[]⟩,false,0,[]⟩ ⟨#[]⟩ w1 (.inl rfl) hB1 (λ w2 h2=>?_) (λ w2 h2=>?_) (λ w2 h2=>?_) (λ w2 h2=>?_)).mono ?_
      ·refine(is_left0 F (Cf.N:Int) fb fd x t wd P (npg P key ref) m sp Cf.N _ 0 w2 (hIf h2) (by omega)).mono ?_
       rintro e w3 ⟨A,c,rfl, -, -,h3⟩;exact⟨A,c,rfl,h3⟩
      ·refine(is_right0 F (Cf.N:Int) fb fd x t wd P (npg P key ref) m sp Cf.N _ w2 (hIf h2)).mono ?_
       rintro e w3 ⟨rfl,h3⟩;exact⟨none,0,rfl,h3⟩
      ·exact(is_err0 F (Cf.N:Int) fb fd x t wd P (npg P key ref) m sp Cf.N _ w2 (hIp h2))
      ·exact(is_sep0 F (Cf.N:Int) fb fd x t wd P (npg P key ref) m sp Cf.N _ 0 w2 (hIp h2))
      ·rintro e w' ⟨rfl,hq,hK2⟩
       rcases hq with⟨-, -,rq,A,c,hB2,hH2,hrq⟩|⟨-,e, -⟩|⟨e, -⟩
       ·have hrl:=hH2.lt
        exact⟨rfl,post_ph hB2,_,hM1.kept hK2 (Ne.symm hpb) (Ne.symm hpg),.rl (full:=false) hB2 hH2 (.inl hp) (by omega) (.inr ⟨by omega,hrl⟩) (endW_lt _) (λ_=>rfl),by omega,hIw hK2⟩
       ·cases e
       ·exact absurd rfl e
    | ful hv =>
     have hf:F<(npg P key ref).xs.length:=by
      rcases Nat.lt_or_ge F (npg P key ref).xs.length with e|e
      ·exact e
      ·rw[decide_eq_false (by omega)] at htw1;cases htw1
     cases A with
     | in0 hf'=>exact absurd hf hf'
     | in1 hf' hv' hlb A=>omega
     | inF hf' hv' =>
      refine(po_leave (Cf.N:Int) F fb fd p lv key ref 2 lk gr lo false x t wd 0 0 2 P ⟨0,⟨#[]⟩,false,0,[]⟩ ⟨#[]⟩ w1 (.inr ⟨rfl,rfl⟩) hB1 (λ w2 h2=>?_) (λ w2 h2=>?_) (λ w2 h2=>?_) (λ w2 h2=>?_)).mono ?_
      ·refine(is_leftF F (Cf.N:Int) fb fd x t wd P (npg P key ref) m sp Cf.N _ w2 (hIf h2) (by omega)).mono ?_
       rintro e w3 ⟨A,c,rfl, -, -,h3⟩;exact⟨A,c,rfl,h3⟩
      ·refine(is_rightF F (Cf.N:Int) fb fd x t wd P (npg P key ref) m sp Cf.N _ w2 (hIf h2)).mono ?_
       rintro e w3 ⟨rfl,h3⟩;exact⟨none,0,rfl,h3⟩
      ·exact(is_errF F (Cf.N:Int) fb fd x t wd P (npg P key ref) m sp Cf.N _ 0 w2 (hIp h2))
      ·exact(is_sepF F (Cf.N:Int) fb fd x t wd P (npg P key ref) m sp Cf.N _ w2 (hIp h2))
      ·rintro e w' ⟨rfl,hq,hK2⟩
       rcases hq with⟨-,e, -⟩|⟨-, -,rq,A,c,hB2,hH2,hrq⟩|⟨e, -⟩
       ·cases e
       ·have hrl:=hH2.lt
        exact⟨rfl,post_ph hB2,_,hM1.kept hK2 (Ne.symm hpb) (Ne.symm hpg),.rl (full:=true) hB2 hH2 (.inl hp) (by omega) (.inr ⟨by omega,hrl⟩) hwd (λ e=>by cases e),by omega,hIw hK2⟩
       ·exact absurd rfl e
    | don1 hv =>
     have hf:F<(npg P key ref).xs.length:=by
      rcases Nat.lt_or_ge F (npg P key ref).xs.length with e|e
      ·exact e
      ·rw[decide_eq_false (by omega)] at htw1;cases htw1
     have hml:(lpg (npg P key ref) m sp (Nv+1)).xs.length<=1099511627776:=by show (List.take _ _).length<=_;rw[List.length_take];omega
     have hmr:(rpg (npg P key ref) m).xs.length<=1099511627776:=by show (List.drop _ _).length<=_;rw[List.length_drop];omega
     cases A with
     | in0 hf'=>exact absurd hf hf'
     | inF hf' hv'=>omega
     | in1 hf' hv' hlb A =>
      refine(po_leave (Cf.N:Int) F fb fd p lv key ref 2 lk gr lo false x t (endW (beginW wd)) (Nv+1) 1 0 (lpg (npg P key ref) m sp (Nv+1)) (rpg (npg P key ref) m) sp w1 (.inl rfl) hB1 (λ w2 h2=>?_) (λ w2 h2=>?_) (λ w2 h2=>?_) (λ w2 h2=>?_)).mono ?_
      ·refine(is_left1 F (Cf.N:Int) fb fd x t wd P (npg P key ref) m sp Cf.N _ (Nv+1) w2 (hIf h2) hml).mono ?_
       rintro e w3 ⟨A,c,rfl, -, -,h3⟩;exact⟨A,c,rfl,h3⟩
      ·refine(is_right1 F (Cf.N:Int) fb fd x t wd P (npg P key ref) m sp Cf.N _ (Nv+1) w2 (hIf h2) hmr).mono ?_
       rintro e w3 ⟨A,c,rfl, -, -,h3⟩;exact⟨A,c,rfl,h3⟩
      ·exact(is_err1 F (Cf.N:Int) fb fd x t wd P (npg P key ref) m sp Cf.N _ (Nv+1) w2 (hIp h2))
      ·exact(is_sep1 F (Cf.N:Int) fb fd x t wd P (npg P key ref) m sp Cf.N _ (Nv+1) w2 (hIp h2))
      ·rintro e w' ⟨rfl,hq,hK2⟩
       rcases hq with⟨e, -⟩|⟨e, -⟩|⟨-,g4,cc,A4,c4,A5,c5,hB2,hO,hg4⟩
       ·omega
       ·omega
       ·have hcc:=hO.1
        have h7:two7 w' g4 t (endW (beginW wd)) (Nv+1) 1 (lpg (npg P key ref) m sp (Nv+1)) (rpg (npg P key ref) m) A4 A5 c4 c5:=two_of hO;exact⟨rfl,post_ph hB2,_,hM1.kept hK2 (Ne.symm hpb) (Ne.symm hpg),.ra hB2 (cap_of hO) h7 (.inl hp) (by omega) (.inr ⟨by omega,h7.1⟩) (endW_lt _) (by omega) (by omega) hlb A,by omega,hIw hK2⟩
   ·rintro e w' ⟨rfl, -,l',hM,hP,hpos,hK⟩
    have hdd:d=d2:=by omega
    exact⟨by rw[show (d==0)=false from by simp;omega],_,hM,by rw[hdd];exact hP,hK⟩
  ·obtain⟨d3,rfl⟩:∃ d3,di=d3+1:=⟨di-1,by omega⟩
   rw[show decide (d3+1+1=1)=false from by simp] at HS;have HS1:Calls prog 44 #[.pointer (some ⟨x,0,none⟩),.pointer (some ⟨b,0,none⟩)] w λ e w'=>e=.returned (.bool false)/\(∃(s':Is) (l':List Cel),Mem w' b g l' (k+1)/\IAt (Zm Zl w w') w' F (Cf.N:Int) fb fd x t wd P (npg P key ref) m sp Cf.N s'/\Ipl F (Cf.N:Int) t wd P (npg P key ref) m sp Cf.N Nv l0 ⟨#[]⟩ 0 s' l' (d3+1)/\Kept (λ i=>Zl i\/i=b\/i=g) w w'/\s'.two=decide (F<(npg P key ref).xs.length)):=HS.mono (λ e w' hh=>by
    obtain⟨s',l',h1,h2,h3,h4',h5,h6'⟩:=hh;exact⟨h1,s',l',h2,h3,h4',h5,by rw[h6'];exact htw⟩)
   refine(po_step2 (Cf.N:Int) F fb fd p lv key ref lk gr lo false x b w hB _ HS1 (λ w' q=>by obtain⟨s',l', -, -, -,h4', -⟩:=q;exact post_ph (h4'.blk hB (hQp h4')))).mono ?_;rintro e w' ⟨rfl,s',l',hM,hI1,I1,hK,htw1⟩;refine⟨by rw[show (d==0)=false from by simp;omega],_,hM,?_,kept_zl hK hz⟩;rw[show d=d3+1+d2 by omega];exact .ins (hK.blk hB (hQp hK)) hI1 I1 htw1 O hzn (.inl hp) A
 | rl hB hH hp hrp hrz hwd h0 =>
  rename_i lk gr ins lv key ref full rq A c t wd P
  have hpb:p≠b:=λ e=>hb (e ▸ hp);have hpg:p≠g:=λ e=>hg (e ▸ hp);obtain rfl:d=0:=by omega
  cases full with
  | true =>
   refine(po_step3_5 (Cf.N:Int) F fb fd p lv key ref lk gr ins _ true b w hB _ ((po_relA5 (Cf.N:Int) F fb fd p hl hd lv key ref lk gr ins w b g l k hm hpb hpg hk rq t wd P A c hwd hH hB).mono (λ e w' hh=>by
    obtain⟨lo',h1,h2,h3,h4'⟩:=hh;exact(⟨h1,h2,⟨lo',h3⟩,h4'⟩:e=.returned (.tuple #[])/\(Mem w' b g (rl1 F t wd l) (k+1)/\(∃ lo',Blk w' p 90 (postv (Cf.N:Int) F fb fd lv key ref 5 lk gr ins lo' true))/\Kept (λ j=>j=p\/j=b\/j=g) w w')))) (λ w' q=>by obtain⟨-,⟨lo',h3⟩, -⟩:=q;exact post_ph h3)).mono ?_
   rintro e w' ⟨rfl,hM,⟨lo',hB2⟩,hK⟩;exact⟨rfl,_,hM,.don (ok:=false) hB2 (.inl hp),own_z1 hK hp⟩
  | false =>
   obtain rfl:=h0 rfl;refine(po_step3_4 (Cf.N:Int) F fb fd p lv key 0 lk gr ins _ false b w hB _ ((po_relA4 (Cf.N:Int) F fb fd p hl hd lv key lk gr ins w b g l k hm hpb hpg hk rq t wd P A c hwd hH hB).mono (λ e w' hh=>by
    obtain⟨lo',h1,h2,h3,h4'⟩:=hh;exact(⟨h1,h2,⟨lo',h3⟩,h4'⟩:e=.returned (.tuple #[])/\(Mem w' b g (rl1 F t wd l) (k+1)/\(∃ lo',Blk w' p 90 (postv (Cf.N:Int) F fb fd lv key 0 4 lk gr ins lo' false))/\Kept (λ j=>j=p\/j=b\/j=g) w w')))) (λ w' q=>by obtain⟨-,⟨lo',h3⟩, -⟩:=q;exact post_ph h3)).mono ?_
   rintro e w' ⟨rfl,hM,⟨lo',hB2⟩,hK⟩;exact⟨rfl,_,hM,.don (ok:=true) hB2 (.inl hp),own_z1 hK hp⟩
 | ra hB hcc hH hp hrp hrz hwd hrwd hr0 hlb A' =>
  rename_i lk gr ins lv key ref g4 cc A A2 c c2 t wd rwd P Q d2
  have hpb:p≠b:=λ e=>hb (e ▸ hp);have hpg:p≠g:=λ e=>hg (e ▸ hp);have hgb:g4≠b:=λ e=>hb (e ▸ hrz);have hgg:g4≠g:=λ e=>hg (e ▸ hrz);obtain⟨hg4,hH⟩:=hH;have HS:=(po_relB (Cf.N:Int) F fb fd p hl hd lv key ref lk gr ins false w b g l k hm hpb hpg hk g4 cc t wd P A c hwd (hH 0 _ rfl) (hH 1 _ rfl) (hH 2 _ rfl) (hH 3 _ rfl) (hH 4 _ rfl) (hH 5 _ rfl) (hH 6 _ rfl) hcc hB);refine(po_step3_3 (Cf.N:Int) F fb fd p lv key ref lk gr ins _ false b w hB _ HS (λ w' q=>post_ph q.2.1)).mono ?_;rintro e w' ⟨rfl,hM,hB2,hK⟩;have hdd:d=1+d2:=by omega
  refine⟨by rw[show (d==0)=false from by simp;omega],_,hM,?_,own_z1 hK hp⟩;rw[hdd];exact .rb (wd:=wd) hB2 (by omega) ⟨Nat.lt_of_lt_of_le hg4 hK.size,λ i u hu=>(hK.cell (p:=⟨g4,i,none⟩) hg4 (λ e=>by rcases e with e|e|e;exact hrp e;exact hgb e;exact hgg e)).trans (hH i u hu)⟩ (.inl hp) hrp (.inl hrz) hrwd hr0 hlb A'
 | rb hB hcc hH hp hrp hrz hrwd hr0 hlb A' =>
  rename_i lk gr ins lv key ref g4 cc A A2 c c2 t wd rwd P Q d2
  have hpb:p≠b:=λ e=>hb (e ▸ hp);have hpg:p≠g:=λ e=>hg (e ▸ hp);obtain⟨hg4,hH⟩:=hH;have hpl:=hB.lt;have hd2:0<d2:=by cases A' <;> omega
  have hdd:d=d2:=by omega
  have HS:Calls prog 46 #[.pointer (some ⟨p,0,none⟩),.pointer (some ⟨b,0,none⟩)] w λ e w'=>e=.returned (.tuple #[])/\(w'.cell? ⟨p,13,none⟩=some (int .i64 0)/\Mem w' b g (rl1 F ref rwd l) (k+1)/\PA (Zm Z w w') w' F fb fd b g p (rl1 F ref rwd l) d2 lE ok/\Kept (λ j=>Z j\/j=b\/j=g) w w'):=by
   have fin:∀(w':World) (x:Nat) (lo':Value),Mem w' b g (rl1 F ref rwd l) (k+1)->(∃ Zl:Nat->Prop,LAt Zl w' F fb fd x key (lv+1) (.fnd .root)/\∀ i,Zl i->w.heap.size<=i/\i<w'.heap.size)->Blk w' p 90 (postv (Cf.N:Int) F fb fd (lv+1) key ref 0 (.pointer (some ⟨x,0,none⟩)) (.pointer none) ins lo' false)->Kept (λ j=>j=p\/j=b\/j=g) w w'->(w'.cell? ⟨p,13,none⟩=some (int .i64 0)/\Mem w' b g (rl1 F ref rwd l) (k+1)/\PA (Zm Z w w') w' F fb fd b g p (rl1 F ref rwd l) d2 lE ok/\Kept (λ j=>Z j\/j=b\/j=g) w w'):=by
    rintro w' x lo' hM ⟨Zy,h1,h2⟩ hB2 hK;exact⟨post_ph hB2,hM,PA.start A' hB2 (λ_=>rfl) h1 (λ j hj=>⟨.inr (h2 j hj),by have:=h2 j hj;omega⟩) (.inl hp),own_z1 hK hp⟩
   by_cases h1:cc=1
   ·refine(po_relCU (Cf.N:Int) F fb fd p hl hd lv key ref lk gr ins w b g l k hm hpb hpg hk g4 cc ref rwd Q A2 c2 hrwd (hH 7 _ rfl) (hH 8 _ rfl) (hH 9 _ rfl) (hH 10 _ rfl) (hH 11 _ rfl) (hH 12 _ rfl) (hH 13 _ rfl) h1 hB (lv+1) rfl hlb hr0 _ (λ w2 hK2=>newLock_po F fb fd key (lv+1) w.heap.size w2 hK2.size) (λ y w2 w3=>lat_po hpl)).mono ?_
    rintro e w' ⟨x,lo',rfl,hM,hL,hB2,hK⟩;exact⟨rfl,fin w' x lo' hM hL hB2 hK⟩
   ·refine(po_relDU (Cf.N:Int) F fb fd p hl hd lv key ref lk gr ins w b g l k hm hpb hpg hk g4 cc ref rwd Q A2 c2 hrwd (hH 7 _ rfl) (hH 8 _ rfl) (hH 9 _ rfl) (hH 10 _ rfl) (hH 11 _ rfl) (hH 12 _ rfl) (hH 13 _ rfl) (by omega) hB (lv+1) rfl hlb hr0 _ (λ w2 hK2=>newLock_po F fb fd key (lv+1) w.heap.size w2 hK2.size) (λ y w2 w3=>lat_po hpl)).mono ?_
    rintro e w' ⟨x,lo',rfl,hM,hL,hB2,hK⟩;exact⟨rfl,fin w' x lo' hM hL hB2 hK⟩
  refine(po_step3_0 (Cf.N:Int) F fb fd p lv key ref lk gr ins _ false b w hB _ HS (λ w' q=>q.1)).mono ?_;rintro e w' ⟨rfl, -,hM,hP,hK⟩;exact⟨by rw[show (d==0)=false from by simp;omega],_,hM,by rw[hdd];exact hP,hK⟩
 | don hB hp=>omega
theorem pa_end(I:PA Z w F fb fd b g p l 0 lE ok):l=lE/\Calls prog 17 #[.pointer (some ⟨p,0,none⟩)] w λ e w'=>e=.returned (.bool ok)/\w=w':=by
 generalize hD:(0:Nat)=D at I;cases I with
 | don hB hp =>
  refine⟨rfl,?_⟩;cases ok with
  | true=>exact po_posted (Cf.N:Int) F fb fd p _ _ _ _ _ _ _ _ w hB
  | false=>exact po_posted5 (Cf.N:Int) F fb fd p _ _ _ _ _ _ _ _ w hB
 | lck=>omega
 | lcn=>omega
 | gro=>omega
 | ins=>omega
 | rl=>omega
 | ra=>omega
 | rb=>omega
theorem PA.kept(I:PA Z w F fb fd b g p l d lE ok)(hk:Kept Y w w')(hY:∀ i,Z i->¬ Y i):PA Z w' F fb fd b g p l d lE ok:=by
 cases I with
 | lck hB hL hz hp hn T hr A=>exact .lck (hk.blk hB (hY _ hp)) (hL.kept hk (λ i hi=>hY i (hz i hi).1)) hz hp hn T hr A
 | lcn hB hL hz hp hn hr O A=>exact .lcn (hk.blk hB (hY _ hp)) (hL.kept hk (λ i hi=>hY i (hz i hi).1)) hz hp hn hr O A
 | gro hB hG hz hp hx O A=>exact .gro (hk.blk hB (hY _ hp)) (hG.kept hk (λ i hi=>hY i (hz i hi).1)) hz hp hx O A
 | ins hB hI I htw O hz hp A=>exact .ins (hk.blk hB (hY _ hp)) (hI.kept hk (λ i hi=>hY i (hz i hi).1)) I htw O hz hp A
 | rl hB hH hp hrp hrz hwd h0=>exact .rl (hk.blk hB (hY _ hp)) (hk.blk hH (hY _ hrz)) hp hrp hrz hwd h0
 | ra hB hcc hH hp hrp hrz hwd hrwd hr0 hlb A'=>exact .ra (hk.blk hB (hY _ hp)) hcc ⟨Nat.lt_of_lt_of_le hH.1 hk.size,λ i u hu=>(hk.cell (p:=⟨_,i,none⟩) hH.1 (hY _ hrz)).trans (hH.2 i u hu)⟩ hp hrp hrz hwd hrwd hr0 hlb A'
 | rb hB hcc hH hp hrp hrz hrwd hr0 hlb A'=>exact .rb (hk.blk hB (hY _ hp)) hcc ⟨Nat.lt_of_lt_of_le hH.1 hk.size,λ i u hu=>(hk.cell (p:=⟨_,i,none⟩) hH.1 (hY _ hrz)).trans (hH.2 i u hu)⟩ hp hrp hrz hrwd hr0 hlb A'
 | don hB hp=>exact .don (hk.blk hB (hY _ hp)) hp
theorem pa_new{lv:Nat}{key:ByteArray}{ref:Nat}(w:World)(pl:Pln F fb fd .st false lv key ref l d lE ok)(b g:Nat) :
  Calls prog 14 #[.agg #[int .i64 1,int .i64 2,int .i64 Cf.N,int .i64 Cf.C,int .i64 Cf.R,int .i64 F,int .u64 Cf.K,int .i64 10,int .i64 fb,int .i64 fd],int .i64 lv,.string key,int .u64 ref] w λ e w'=>∃ p,e=.returned (.pointer (some ⟨p,0,none⟩))/\(∃ Z:Nat->Prop,PA Z w' F fb fd b g p l d lE ok/\∀ i,Z i->w.heap.size<=i/\i<w'.heap.size)/\Kept (λ_=>False) w w':=by
 refine(newPost_any (Cf.N:Int) F fb fd lv key ref w (λ p x w2=>p<w2.heap.size/\∃ Zl:Nat->Prop,LAt Zl w2 F fb fd x key lv (.fnd .root)/\∀ i,Zl i->p<i/\i<w2.heap.size) ?_ ?_).mono ?_
 ·intro p w1 hp1 hp2 hK
  refine(newLock_at F fb fd key lv w1).mono ?_;rintro e w' ⟨x,Zl,he,h1,h2,h3⟩;exact⟨x,he,⟨Nat.lt_of_lt_of_le hp2 h3.size,Zl,h1,λ i hi=>⟨by have:=h2 i hi;omega,(h2 i hi).2⟩⟩,h3⟩
 ·rintro p x w1 w2 hp ⟨h0,Zl,h1,h2⟩ hk
  exact⟨Nat.lt_of_lt_of_le h0 hk.size,Zl,h1.kept hk (λ i hi e=>by have:=h2 i hi;omega),λ i hi=>⟨(h2 i hi).1,Nat.lt_of_lt_of_le (h2 i hi).2 hk.size⟩⟩
 ·rintro e w' ⟨p,x,rfl,hp,⟨h0,Zl,h1,h2⟩,hB,hK⟩
  exact⟨p,rfl,⟨λ i=>i=p\/Zl i,PA.start pl hB (λ_=>rfl) h1 (λ i hi=>⟨.inr hi,by have:=h2 i hi;omega⟩) (.inl rfl),λ i hi=>by
   rcases hi with rfl|hi
   ·exact⟨hp,h0⟩
   ·have:=h2 i hi;omega⟩,hK⟩
end
end
end Go.Proofs.YtlkgmnjceghpiaaGreat
