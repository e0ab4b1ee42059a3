/-
 A growth of package post that nobody disturbs,step for step to its end;a Lock that finds no node;what an Insert answers at its ends. Condition: a layout within its limits.
-/
import Derived.Test.YtlkgmnjceghpiaaGreatPoGro
import Derived.Test.YtlkgmnjceghpiaaGreatTgLock
import Derived.Test.YtlkgmnjceghpiaaGreatInWay
namespace Go.Proofs.YtlkgmnjceghpiaaGreat
open Go.RowKit Go.Deep Plain
set_option linter.unusedSectionVars false
set_option linter.unusedVariables false
open _root_.Go.Proofs.Tryz
open Go.Value (int)
set_option maxHeartbeats 8000000
set_option maxRecDepth 100000
section
variable [Cf]

theorem is_err0(F:Nat)(N fb fd:Int)(i id wd:Nat)(P X:Pg)(m:Nat)(sp:ByteArray)(lim:Nat)(Z:Nat->Prop)(w:World)(h:IAt Z w F N fb fd i id wd P X m sp lim (.don none)) :
  Calls prog 95 #[.pointer (some ⟨i,0,none⟩)] w λ e w'=>e=.returned (int .i64 0)/\Kept (λ_=>False) w w':=by
 cases h with
 | don0 h hw hi hz =>
  rename_i q2 tk Zw A c A2 c2
  have x22:=h.k 22 rfl;clear h;go_enter func95,ntmps95;go_wp2;go_ret;exact⟨rfl,Kept.refl _ _⟩
theorem is_err1(F:Nat)(N fb fd:Int)(i id wd:Nat)(P X:Pg)(m:Nat)(sp:ByteArray)(lim:Nat)(Z:Nat->Prop)(num:Nat)(w:World)(h:IAt Z w F N fb fd i id wd P X m sp lim (.don (some num))) :
  Calls prog 95 #[.pointer (some ⟨i,0,none⟩)] w λ e w'=>e=.returned (int .i64 0)/\Kept (λ_=>False) w w':=by
 cases h with
 | don1 h hf hw hi hzf hz hd =>
  rename_i q2 r tk Zf Zw A c A3 c3
  have x22:=h.k 22 rfl;clear h;go_enter func95,ntmps95;go_wp2;go_ret;exact⟨rfl,Kept.refl _ _⟩
theorem is_sepF(F:Nat)(N fb fd:Int)(i id wd:Nat)(P X:Pg)(m:Nat)(sp:ByteArray)(lim:Nat)(Z:Nat->Prop)(w:World)(h:IAt Z w F N fb fd i id wd P X m sp lim .ful) :
  Calls prog 96 #[.pointer (some ⟨i,0,none⟩)] w λ e w'=>e=.returned (.string ⟨#[]⟩)/\Kept (λ_=>False) w w':=by
 cases h with
 | ful h hi hR hA =>
  rename_i tk fr wp A c A2 c2 s0
  have x22:=h.k 22 rfl;have x26:=h.k 26 rfl;clear h;go_enter func96,ntmps96;go_wp2;go_ret;exact⟨rfl,Kept.refl _ _⟩

inductive LrN (F:Nat) (key:ByteArray) (lvl:Nat) (l:List Cel):Nat->Ls->Prop
 | fnd {d:Nat} {s:Fs} (h:FWs F key lvl l (d+1) 0 s):LrN F key lvl l (d+1) (.fnd s)
 | bad:LrN F key lvl l 0 .bad
theorem LrN.step{F:Nat}{key:ByteArray}{lvl:Nat}{l:List Cel}(hn:Nats l){d:Nat}{s:Ls}(h:LrN F key lvl l (d+1) s) :
  Lok F key lvl l s/\lmem F l s=l/\LrN F key lvl l d (lgo F key lvl l s)/\(lgo F key lvl l s).fin=(d==0)/\s.fin=false:=by
 generalize hD:d+1=D at h;cases h with
 | bad=>omega
 | fnd hf =>
  rename_i d' s
  obtain rfl:d=d':=by omega
  obtain⟨h1,h2,h3⟩:=hf.step hn;refine⟨h1,rfl,?_,?_,rfl⟩
  ·have e0:lgo F key lvl l (.fnd s)=ldo (fgo F key lvl l s):=rfl
   rw[e0];generalize fgo F key lvl l s=s' at h2 h3;cases s' with
   | root =>
    have hd0:d≠0:=by intro e;rw[e] at h3;cases h3
    obtain⟨d2,rfl⟩:∃ d2,d=d2+1:=⟨d-1,by omega⟩;exact .fnd h2
   | rd n y =>
    have hd0:d≠0:=by intro e;rw[e] at h3;cases h3
    obtain⟨d2,rfl⟩:∃ d2,d=d2+1:=⟨d-1,by omega⟩;exact .fnd h2
   | arr n y =>
    have e:n=0/\d=0:=by cases h2;exact⟨rfl,rfl⟩
    obtain⟨rfl,rfl⟩:=e;have e1:ldo (.arr 0 y)=.bad:=by show lto 0=.bad;unfold lto;rw[if_neg (by omega)]
    rw[e1];exact .bad
   | no =>
    have e:d=0:=by cases h2;rfl
    subst e;exact .bad
  ·have e0:lgo F key lvl l (.fnd s)=ldo (fgo F key lvl l s):=rfl
   rw[e0, ←h3];generalize fgo F key lvl l s=s' at h2 h3;cases s' with
   | root=>rfl
   | rd n y=>rfl
   | arr n y =>
    have e:n=0:=by cases h2;rfl
    subst e;have e1:ldo (.arr 0 y)=.bad:=by show lto 0=.bad;unfold lto;rw[if_neg (by omega)]
    rw[e1];rfl
   | no=>rfl
end

section
variable [Cf]
def gl7(l:List Cel)(W:Nat):List Cel:=putAt l 7 (((lockW W:Nat):Int),(⟨#[]⟩:ByteArray),(0:Int))
def gl4(l:List Cel)(W Nv:Nat):List Cel:=putAt (gl7 l W) 4 (((Nv+1:Nat):Int),(⟨#[]⟩:ByteArray),(0:Int))
def gss(F Nv lv root:Nat):List Sto:=gfrs (Cf.N:Int) F (Nv+1) lv root
def glu(F:Nat)(l:List Cel)(W Nv lv root:Nat):List Cel:=putAt (app (gl4 l W Nv) (gss F Nv lv root)) (nla F (Nv+1)) (((unlockW 1:Nat):Int),(⟨#[]⟩:ByteArray),(0:Int))
def glr(F:Nat)(l:List Cel)(W Nv lv root:Nat):List Cel:=putAt (glu F l W Nv lv root) 0 (((Nv+1:Nat):Int),(⟨#[]⟩:ByteArray),(0:Int))
def gl8(l:List Cel)(W:Nat):List Cel:=putAt l 7 (((unlockW (lockW W):Nat):Int),(⟨#[]⟩:ByteArray),(0:Int))
def gR(F Nv lv root:Nat):Nat:=if Nv<Cf.N then (gss F Nv lv root).length+5 else 2
def glE(F:Nat)(l:List Cel)(W Nv lv root:Nat):List Cel:=if Nv<Cf.N then gl8 (glr F l W Nv lv root) W else gl8 (gl7 l W) W
def gful(Nv:Nat):Bool:=decide (¬ Nv<Cf.N)
theorem gss_len(F Nv lv root:Nat):(gss F Nv lv root).length=5:=by unfold gss gfrs;rw[List.length_append,pst_length];rfl
inductive GA (Z:Nat->Prop) (w:World) (F:Nat) (fb fd:Int) (i lv:Nat) (l:List Cel) (root W Nv:Nat):List Cel->Nat->Prop
 | a0 {q t r0 N0:Nat} {K0:ByteArray} {M0:Int} (h:Blk w i 133 (grov (Cf.N:Int) F fb fd lv 0 (.pointer (some ⟨q,0,none⟩)) r0 (.pointer (some ⟨t,0,none⟩)) (.pointer none) false)) (hq:AcqB w q 7 N0 K0 M0 false false) (ht:Blk w t 178 (macv 4 0 ⟨#[]⟩ 0 false Cf.N false false)) (hi:Z i) (hqz:Z q) (htz:Z t) (hqi:q≠i) (hti:t≠i) (hqt:q≠t):GA Z w F fb fd i lv l root W Nv l (gR F Nv lv root+4)
 | a1 {q t r0:Nat} (h:Blk w i 133 (grov (Cf.N:Int) F fb fd lv 0 (.pointer (some ⟨q,0,none⟩)) r0 (.pointer (some ⟨t,0,none⟩)) (.pointer none) false)) (hq:AcqB w q 7 W ⟨#[]⟩ 0 true false) (ht:Blk w t 178 (macv 4 0 ⟨#[]⟩ 0 false Cf.N false false)) (hi:Z i) (hqz:Z q) (htz:Z t) (hqi:q≠i) (hti:t≠i) (hqt:q≠t):GA Z w F fb fd i lv l root W Nv l (gR F Nv lv root+3)
 | rt {q t r0:Nat} (h:Blk w i 133 (grov (Cf.N:Int) F fb fd lv 1 (.pointer (some ⟨q,0,none⟩)) r0 (.pointer (some ⟨t,0,none⟩)) (.pointer none) false)) (hq:AcqB w q 7 W ⟨#[]⟩ 0 false true) (ht:Blk w t 178 (macv 4 0 ⟨#[]⟩ 0 false Cf.N false false)) (hi:Z i) (hqz:Z q) (htz:Z t) (hqi:q≠i) (hti:t≠i) (hqt:q≠t):GA Z w F fb fd i lv l root W Nv (gl7 l W) (gR F Nv lv root+2)
 | hd {q t:Nat} (h:Blk w i 133 (grov (Cf.N:Int) F fb fd lv 2 (.pointer (some ⟨q,0,none⟩)) root (.pointer (some ⟨t,0,none⟩)) (.pointer none) false)) (hq:AcqB w q 7 W ⟨#[]⟩ 0 false true) (ht:Blk w t 178 (macv 4 0 ⟨#[]⟩ 0 false Cf.N false false)) (hi:Z i) (hqz:Z q) (htz:Z t) (hqi:q≠i) (hti:t≠i) (hqt:q≠t):GA Z w F fb fd i lv l root W Nv (gl7 l W) (gR F Nv lv root+1)
 | t0 {q t:Nat} (h:Blk w i 133 (grov (Cf.N:Int) F fb fd lv 3 (.pointer (some ⟨q,0,none⟩)) root (.pointer (some ⟨t,0,none⟩)) (.pointer none) false)) (hq:AcqB w q 7 W ⟨#[]⟩ 0 false true) (ht:Blk w t 178 (macv 4 0 ⟨#[]⟩ 0 false Cf.N false false)) (hi:Z i) (hqz:Z q) (htz:Z t) (hqi:q≠i) (hti:t≠i) (hqt:q≠t):GA Z w F fb fd i lv l root W Nv (gl7 l W) (gR F Nv lv root)
 | t1 {q t:Nat} (hv:Nv<Cf.N) (h:Blk w i 133 (grov (Cf.N:Int) F fb fd lv 3 (.pointer (some ⟨q,0,none⟩)) root (.pointer (some ⟨t,0,none⟩)) (.pointer none) false)) (hq:AcqB w q 7 W ⟨#[]⟩ 0 false true) (ht:Blk w t 178 (macv 4 Nv ⟨#[]⟩ 0 true Cf.N false false)) (hi:Z i) (hqz:Z q) (htz:Z t) (hqi:q≠i) (hti:t≠i) (hqt:q≠t):GA Z w F fb fd i lv l root W Nv (gl7 l W) ((gss F Nv lv root).length+4)
 | fil {q r j:Nat} {tk:Value} {Zf:Nat->Prop} (hv:Nv<Cf.N) (hj:j<(gss F Nv lv root).length) (h:Blk w i 133 (grov (Cf.N:Int) F fb fd lv 4 (.pointer (some ⟨q,0,none⟩)) root tk (.pointer (some ⟨r,0,none⟩)) false)) (hq:AcqB w q 7 W ⟨#[]⟩ 0 false true) (hf:Stm Zf w r 188 (gss F Nv lv root) j (Nv+1) 1 (gpg lv root)) (hz:∀ k,Zf k->Z k/\k≠i/\k≠q) (hi:Z i) (hqz:Z q) (hqi:q≠i):GA Z w F fb fd i lv l root W Nv (app (gl4 l W Nv) ((gss F Nv lv root).take j)) ((gss F Nv lv root).length-j+3)
 | unl {q r:Nat} {tk:Value} {Zf:Nat->Prop} (hv:Nv<Cf.N) (h:Blk w i 133 (grov (Cf.N:Int) F fb fd lv 5 (.pointer (some ⟨q,0,none⟩)) root tk (.pointer (some ⟨r,0,none⟩)) false)) (hq:AcqB w q 7 W ⟨#[]⟩ 0 false true) (hf:Stm Zf w r 188 (gss F Nv lv root) (gss F Nv lv root).length (Nv+1) 1 (gpg lv root)) (hz:∀ k,Zf k->Z k/\k≠i/\k≠q) (hi:Z i) (hqz:Z q) (hqi:q≠i):GA Z w F fb fd i lv l root W Nv (app (gl4 l W Nv) (gss F Nv lv root)) 3
 | rep {q r:Nat} {tk:Value} {Zf:Nat->Prop} (hv:Nv<Cf.N) (h:Blk w i 133 (grov (Cf.N:Int) F fb fd lv 6 (.pointer (some ⟨q,0,none⟩)) root tk (.pointer (some ⟨r,0,none⟩)) false)) (hq:AcqB w q 7 W ⟨#[]⟩ 0 false true) (hf:Stm Zf w r 188 (gss F Nv lv root) (gss F Nv lv root).length (Nv+1) 1 (gpg lv root)) (hz:∀ k,Zf k->Z k/\k≠i/\k≠q) (hi:Z i) (hqz:Z q) (hqi:q≠i):GA Z w F fb fd i lv l root W Nv (glu F l W Nv lv root) 2
 | lev {q:Nat} {tk fr:Value} (hv:Nv<Cf.N) (h:Blk w i 133 (grov (Cf.N:Int) F fb fd lv 7 (.pointer (some ⟨q,0,none⟩)) root tk fr false)) (hq:AcqB w q 7 W ⟨#[]⟩ 0 false true) (hi:Z i) (hqz:Z q) (hqi:q≠i):GA Z w F fb fd i lv l root W Nv (glr F l W Nv lv root) 1
 | levF {q:Nat} {tk fr:Value} (hv:¬ Nv<Cf.N) (h:Blk w i 133 (grov (Cf.N:Int) F fb fd lv 7 (.pointer (some ⟨q,0,none⟩)) root tk fr true)) (hq:AcqB w q 7 W ⟨#[]⟩ 0 false true) (hi:Z i) (hqz:Z q) (hqi:q≠i):GA Z w F fb fd i lv l root W Nv (gl7 l W) 1
section
variable {Z Y:Nat->Prop} {w w':World} {F:Nat} {fb fd:Int} {i lv:Nat} {l lc:List Cel} {root W Nv d:Nat}
theorem GA.kept(h:GA Z w F fb fd i lv l root W Nv lc d)(hk:Kept Y w w')(hZ:∀ k,Z k->¬ Y k):GA Z w' F fb fd i lv l root W Nv lc d:=by
 cases h with
 | a0 h hq ht hi hqz htz hqi hti hqt=>exact .a0 (hk.blk h (hZ _ hi)) (hk.blk hq (hZ _ hqz)) (hk.blk ht (hZ _ htz)) hi hqz htz hqi hti hqt
 | a1 h hq ht hi hqz htz hqi hti hqt=>exact .a1 (hk.blk h (hZ _ hi)) (hk.blk hq (hZ _ hqz)) (hk.blk ht (hZ _ htz)) hi hqz htz hqi hti hqt
 | rt h hq ht hi hqz htz hqi hti hqt=>exact .rt (hk.blk h (hZ _ hi)) (hk.blk hq (hZ _ hqz)) (hk.blk ht (hZ _ htz)) hi hqz htz hqi hti hqt
 | hd h hq ht hi hqz htz hqi hti hqt=>exact .hd (hk.blk h (hZ _ hi)) (hk.blk hq (hZ _ hqz)) (hk.blk ht (hZ _ htz)) hi hqz htz hqi hti hqt
 | t0 h hq ht hi hqz htz hqi hti hqt=>exact .t0 (hk.blk h (hZ _ hi)) (hk.blk hq (hZ _ hqz)) (hk.blk ht (hZ _ htz)) hi hqz htz hqi hti hqt
 | t1 hv h hq ht hi hqz htz hqi hti hqt=>exact .t1 hv (hk.blk h (hZ _ hi)) (hk.blk hq (hZ _ hqz)) (hk.blk ht (hZ _ htz)) hi hqz htz hqi hti hqt
 | fil hv hj h hq hf hz hi hqz hqi=>exact .fil hv hj (hk.blk h (hZ _ hi)) (hk.blk hq (hZ _ hqz)) (hf.kept hk (λ k hk'=>hZ k (hz k hk').1)) hz hi hqz hqi
 | unl hv h hq hf hz hi hqz hqi=>exact .unl hv (hk.blk h (hZ _ hi)) (hk.blk hq (hZ _ hqz)) (hf.kept hk (λ k hk'=>hZ k (hz k hk').1)) hz hi hqz hqi
 | rep hv h hq hf hz hi hqz hqi=>exact .rep hv (hk.blk h (hZ _ hi)) (hk.blk hq (hZ _ hqz)) (hf.kept hk (λ k hk'=>hZ k (hz k hk').1)) hz hi hqz hqi
 | lev hv h hq hi hqz hqi=>exact .lev hv (hk.blk h (hZ _ hi)) (hk.blk hq (hZ _ hqz)) hi hqz hqi
 | levF hv h hq hi hqz hqi=>exact .levF hv (hk.blk h (hZ _ hi)) (hk.blk hq (hZ _ hqz)) hi hqz hqi
structure Gok(F:Nat)(l:List Cel)(lv root W Nv:Nat):Prop where
 grow:cellAt l 7=((W:Int),(⟨#[]⟩:ByteArray),(0:Int))
 free:W%2=0
 word:W<18446744073709551616
 rootc:cellAt l 0=((root:Int),(⟨#[]⟩:ByteArray),(0:Int))
 tot:cellAt l 4=((Nv:Int),(⟨#[]⟩:ByteArray),(0:Int))
 long:10<=l.length
 rt:1<=root/\root<=Cf.N
 low:∃(Nc:Int) (K:ByteArray) (M:Nat),cellAt l (nodeAt (Cf.N:Int) (F:Int) 10 (root:Int) 1)=(Nc,K,(M:Int))/\M<lv
 lvs:lv<9223372036854775808
 nv:Nv<18446744073709551615
theorem own_z{Z:Nat->Prop}{w w':World}{p q b g:Nat}(hk:Kept (λ j=>j=p\/j=q\/j=b\/j=g) w w')(hp:Z p)(hq:Z q):Kept (λ j=>Z j\/j=b\/j=g) w w':=hk.mono (λ j e=>by rcases e with e|e|e|e;exact .inl (e ▸ hp);exact .inl (e ▸ hq);exact .inr (.inl e);exact .inr (.inr e))
theorem own_z1{Z:Nat->Prop}{w w':World}{p b g:Nat}(hk:Kept (λ j=>j=p\/j=b\/j=g) w w')(hp:Z p):Kept (λ j=>Z j\/j=b\/j=g) w w':=hk.mono (λ j e=>by rcases e with e|e|e;exact .inl (e ▸ hp);exact .inr (.inl e);exact .inr (.inr e))
theorem gro_step(h4:4<=F)(h6:F<=6)(hd:Reach3 10 fb fd)(O:Gok F l lv root W Nv)(I:GA Z w F fb fd i lv l root W Nv lc (d+1))(b g k:Nat)(hm:Mem w b g lc k)(hb:¬ Z b)(hg:¬ Z g)(hk:k<9223372036854775808) :
  Calls prog 42 #[.pointer (some ⟨i,0,none⟩),.pointer (some ⟨b,0,none⟩)] w λ e w'=>e=.returned (.bool (d==0))/\∃ lc',Mem w' b g lc' (k+1)/\(0<d->GA (Zm Z w w') w' F fb fd i lv l root W Nv lc' d)/\(d=0->lc'=glE F l W Nv lv root/\w'.cell? ⟨i,16,none⟩=some (.bool (gful Nv)))/\Kept (λ j=>Z j\/j=b\/j=g) w w':=by
 have hl:=limF (F:=F) h4 h6;have hsl:=gss_len F Nv lv root;have hin7:isIn l 7=true:=by have:=O.long;unfold isIn;simp;omega
 have hz:∀{w':World} {j:Nat},Z j->Zm Z w w' j:=λ h=>.inl h;generalize hD:d+1=D at I;cases I with
 | a0 h hq ht hi hqz htz hqi hti hqt =>
  rename_i q t r0 N0 K0 M0
  have hib:i≠b:=λ e=>hb (e ▸ hi);have hig:i≠g:=λ e=>hg (e ▸ hi);refine(gro_wait0 (Cf.N:Int) F fb fd hl hd i lv r0 _ _ false w b g l k hm hib hig hk q hqi (λ e=>hb (e ▸ hqz)) (λ e=>hg (e ▸ hqz)) h W N0 K0 ⟨#[]⟩ M0 0 hq O.grow O.word).mono ?_;rintro e w' ⟨rfl,h1,h2,h3,h4⟩;refine⟨by rw[show (d==0)=false from by simp;omega],l,h1,λ_=>?_,λ e=>by omega,own_z h4 hi hqz⟩;rw[show d=gR F Nv lv root+3 by omega];have e0:(W%2==0)=true:=by simp[O.free]
  rw[e0] at h3;exact .a1 h2 h3 (h4.blk ht (λ e=>by rcases e with e|e|e|e;exact hti e;exact hqt e.symm;exact hb (e ▸ htz);exact hg (e ▸ htz))) (hz hi) (hz hqz) (hz htz) hqi hti hqt
 | a1 h hq ht hi hqz htz hqi hti hqt =>
  rename_i q t r0
  have hib:i≠b:=λ e=>hb (e ▸ hi);have hig:i≠g:=λ e=>hg (e ▸ hi);have hsw:swaps l 7 (W:Int)=true:=by unfold swaps;rw[hin7,O.grow];simp
  refine(gro_wait1 (Cf.N:Int) F fb fd hl hd i lv r0 _ _ false w b g l k hm hib hig hk q hqi (λ e=>hb (e ▸ hqz)) (λ e=>hg (e ▸ hqz)) h W ⟨#[]⟩ 0 hq hsw O.word).mono ?_;rintro e w' ⟨rfl,h1,h2,h3,h4⟩;refine⟨by rw[show (d==0)=false from by simp;omega],_,h1,λ_=>?_,λ e=>by omega,own_z h4 hi hqz⟩;rw[show d=gR F Nv lv root+2 by omega];exact .rt h2 h3 (h4.blk ht (λ e=>by rcases e with e|e|e|e;exact hti e;exact hqt e.symm;exact hb (e ▸ htz);exact hg (e ▸ htz))) (hz hi) (hz hqz) (hz htz) hqi hti hqt
 | rt h hq ht hi hqz htz hqi hti hqt =>
  rename_i q t r0
  have hib:i≠b:=λ e=>hb (e ▸ hi);have hig:i≠g:=λ e=>hg (e ▸ hi);refine(gro_root (Cf.N:Int) F fb fd hl hd i lv _ _ _ r0 false w b g _ k hm hib hig hk h root ⟨#[]⟩ 0 (by unfold gl7;rw[cellAt_other (by omega)];exact O.rootc)).mono ?_;rintro e w' ⟨rfl,h1,h2,h4⟩;refine⟨by rw[show (d==0)=false from by simp;omega],_,h1,λ_=>?_,λ e=>by omega,own_z1 h4 hi⟩;rw[show d=gR F Nv lv root+1 by omega];exact .hd h2 (h4.blk hq (λ e=>by rcases e with e|e|e;exact hqi e;exact hb (e ▸ hqz);exact hg (e ▸ hqz))) (h4.blk ht (λ e=>by rcases e with e|e|e;exact hti e;exact hb (e ▸ htz);exact hg (e ▸ htz))) (hz hi) (hz hqz) (hz htz) hqi hti hqt
 | hd h hq ht hi hqz htz hqi hti hqt =>
  rename_i hd q t
  have hib:i≠b:=λ e=>hb (e ▸ hi);have hig:i≠g:=λ e=>hg (e ▸ hi);obtain⟨Nc,K,M,hc,hlt⟩:=O.low;have hlvs:=O.lvs;have hpos:10<=nodeAt (Cf.N:Int) (F:Int) 10 (root:Int) 1:=by
   have h1:=O.rt.1;have h2:=O.rt.2;unfold nodeAt;rw[if_pos (by omega)];have:0<=((root:Int)-1)*(F:Int):=Int.mul_nonneg (by omega) (by omega);omega
  refine(gro_head3 (Cf.N:Int) F fb fd hl hd i lv _ root _ _ false w b g _ k hm hib hig hk h 0 Nc K M (by omega) (by unfold gl7;rw[cellAt_other (by omega)];exact hc) hlt).mono ?_;rintro e w' ⟨rfl,h1,h2,h4⟩;refine⟨by rw[show (d==0)=false from by simp;unfold gR at hD;split at hD<;>omega],_,h1,λ_=>?_,λ e=>by unfold gR at hD;split at hD<;>omega,own_z1 h4 hi⟩;rw[show d=gR F Nv lv root by omega];exact .t0 h2 (h4.blk hq (λ e=>by rcases e with e|e|e;exact hqi e;exact hb (e ▸ hqz);exact hg (e ▸ hqz))) (h4.blk ht (λ e=>by rcases e with e|e|e;exact hti e;exact hb (e ▸ htz);exact hg (e ▸ htz))) (hz hi) (hz hqz) (hz htz) hqi hti hqt
 | t0 h hq ht hi hqz htz hqi hti hqt =>
  rename_i q t
  have hib:i≠b:=λ e=>hb (e ▸ hi);have hig:i≠g:=λ e=>hg (e ▸ hi);have hc4:cellAt (gl7 l W) 4=((Nv:Int),(⟨#[]⟩:ByteArray),(0:Int)):=by unfold gl7;rw[cellAt_other (by omega)];exact O.tot
  by_cases hv:Nv<Cf.N
  ·have hgr:gR F Nv lv root=(gss F Nv lv root).length+5:=if_pos hv
   refine(gro_take0 (Cf.N:Int) F fb fd hl hd i lv _ root _ false w b g _ k hm hib hig hk t hti (λ e=>hb (e ▸ htz)) (λ e=>hg (e ▸ htz)) h Nv 0 Cf.N ⟨#[]⟩ ⟨#[]⟩ 0 0 ht hc4 hv).mono ?_;rintro e w' ⟨rfl,h1,h2,h3,h4⟩;refine⟨by rw[show (d==0)=false from by simp;omega],_,h1,λ_=>?_,λ e=>by omega,own_z h4 hi htz⟩;rw[show d=(gss F Nv lv root).length+4 by omega];exact .t1 hv h2 (h4.blk hq (λ e=>by rcases e with e|e|e|e;exact hqi e;exact hqt e;exact hb (e ▸ hqz);exact hg (e ▸ hqz))) h3 (hz hi) (hz hqz) (hz htz) hqi hti hqt
  ·have hgr:gR F Nv lv root=2:=if_neg hv
   refine(gro_takeF (Cf.N:Int) F fb fd hl hd i lv _ root _ false w b g _ k hm hib hig hk t hti (λ e=>hb (e ▸ htz)) (λ e=>hg (e ▸ htz)) h Nv 0 Cf.N ⟨#[]⟩ ⟨#[]⟩ 0 0 ht hc4 (by omega)).mono ?_;rintro e w' ⟨rfl,h1,h2,h3,h4⟩;refine⟨by rw[show (d==0)=false from by simp;omega],_,h1,λ_=>?_,λ e=>by omega,own_z h4 hi htz⟩;rw[show d=1 by omega];exact .levF hv h2 (h4.blk hq (λ e=>by rcases e with e|e|e|e;exact hqi e;exact hqt e;exact hb (e ▸ hqz);exact hg (e ▸ hqz))) (hz hi) (hz hqz) hqi
 | t1 hv h hq ht hi hqz htz hqi hti hqt =>
  rename_i q t
  have hib:i≠b:=λ e=>hb (e ▸ hi);have hig:i≠g:=λ e=>hg (e ▸ hi);have hlo:=O.long;have hsw:swaps (gl7 l W) 4 (Nv:Int)=true:=by
   unfold gl7 swaps;rw[cellAt_other (by omega),O.tot];have:isIn (putAt l 7 (((lockW W:Nat):Int),(⟨#[]⟩:ByteArray),(0:Int))) 4=true:=by unfold isIn;rw[putAt_length];simp;omega
   rw[this];simp
  refine(gro_take1 (Cf.N:Int) F fb fd hl hd i lv _ root _ false w b g _ k hm hib hig hk t hti (λ e=>hb (e ▸ htz)) (λ e=>hg (e ▸ htz)) h Nv Cf.N (Nv+1) ⟨#[]⟩ 0 ht hsw O.nv rfl O.lvs).mono ?_;rintro e w' ⟨r,Zf,rfl,h1,h2,h3,h5,hnew,h4⟩;have hil:=h.lt;have hql:=hq.lt;refine⟨by rw[show (d==0)=false from by simp;omega],_,h1,λ_=>?_,λ e=>by omega,own_z h4 hi htz⟩;have:=GA.fil (Z:=Zm Z w w') (l:=l) (W:=W) (j:=0) hv (by omega) h2 (h4.blk hq (λ e=>by rcases e with e|e|e|e;exact hqi e;exact hqt e;exact hb (e ▸ hqz);exact hg (e ▸ hqz))) h5 (λ k hk=>⟨.inr ⟨hnew k hk,h5.lt k hk⟩,λ e=>by have:=hnew k hk;omega,λ e=>by have:=hnew k hk;omega⟩) (hz hi) (hz hqz) hqi;rw[List.take_zero,app_nil] at this;rw[show d=(gss F Nv lv root).length-0+3 by omega];exact this
 | fil hv hj h hq hf hzz hi hqz hqi =>
  rename_i q r j tk Zf
  have hib:i≠b:=λ e=>hb (e ▸ hi);have hig:i≠g:=λ e=>hg (e ▸ hi);obtain⟨ad,cN,cK,cM,hs⟩:=sto_ex2 hj;have he:=app_take (l:=gl4 l W Nv) hs;have hzm:∀{w':World} (k:Nat),Zf k->Zm Z w w' k/\k≠i/\k≠q:=λ k hk=>⟨.inl (hzz k hk).1,(hzz k hk).2⟩;have hqf:∀{w':World},Kept (λ j=>j=i\/Zf j\/j=b\/j=g) w w'->AcqB w' q 7 W ⟨#[]⟩ 0 false true:=λ h4=>h4.blk hq (λ e=>by rcases e with e|e|e|e;exact hqi e;exact(hzz q e).2.2 rfl;exact hb (e ▸ hqz);exact hg (e ▸ hqz));have hown:∀{w':World},Kept (λ j=>j=i\/Zf j\/j=b\/j=g) w w'->Kept (λ j=>Z j\/j=b\/j=g) w w':=λ h4=>h4.mono (λ j e=>by rcases e with e|e|e|e;exact .inl (e ▸ hi);exact .inl (hzz j e).1;exact .inr (.inl e);exact .inr (.inr e))
  by_cases hl1:j+1=(gss F Nv lv root).length
  ·refine(gro_fresh1 (Cf.N:Int) F fb fd hl hd i lv _ root tk false w b g _ k hm hib hig hk r h Zf (λ e=>(hzz i e).2.1 rfl) (λ e=>hb (hzz b e).1) (λ e=>hg (hzz g e).1) _ j (Nv+1) 1 _ hf (by omega) ad cN cM cK hs hl1).mono ?_
   rintro e w' ⟨rfl,h1,h2,h3,h4⟩;have e2:putAt (app (gl4 l W Nv) ((gss F Nv lv root).take j)) ad (cN,cK,cM)=app (gl4 l W Nv) (gss F Nv lv root):=by
    have e3:=he;rw[hl1,List.take_length] at e3;exact e3.symm
   rw[e2] at h1;refine⟨by rw[show (d==0)=false from by simp;omega],_,h1,λ_=>?_,λ e=>by omega,hown h4⟩;rw[hl1] at h3;rw[show d=3 by omega];exact .unl hv h2 (hqf h4) h3 hzm (hz hi) (hz hqz) hqi
  ·refine(gro_fresh0 (Cf.N:Int) F fb fd hl hd i lv _ root tk false w b g _ k hm hib hig hk r h Zf (λ e=>(hzz i e).2.1 rfl) (λ e=>hb (hzz b e).1) (λ e=>hg (hzz g e).1) _ j (Nv+1) 1 _ hf (by omega) ad cN cM cK hs (by omega)).mono ?_
   rintro e w' ⟨rfl,h1,h2,h3,h4⟩;have he':putAt (app (gl4 l W Nv) ((gss F Nv lv root).take j)) ad (cN,cK,cM)=app (gl4 l W Nv) ((gss F Nv lv root).take (j+1)):=he.symm;rw[he'] at h1;refine⟨by rw[show (d==0)=false from by simp;omega],_,h1,λ_=>?_,λ e=>by omega,hown h4⟩;rw[show d=(gss F Nv lv root).length-(j+1)+3 by omega];exact .fil hv (by omega) h2 (hqf h4) h3 hzm (hz hi) (hz hqz) hqi
 | unl hv h hq hf hzz hi hqz hqi =>
  rename_i q r tk Zf
  have hib:i≠b:=λ e=>hb (e ▸ hi);have hig:i≠g:=λ e=>hg (e ▸ hi);refine(gro_unlock (Cf.N:Int) F fb fd hl hd i lv _ root tk false w b g _ k hm hib hig hk r Zf (λ e=>(hzz i e).2.1 rfl) (λ e=>hb (hzz b e).1) (λ e=>hg (hzz g e).1) _ _ (Nv+1) 1 _ hf rfl (by show 1<=_;omega) (by omega) h).mono ?_;rintro e w' ⟨rfl,h1,h2,h3,h4⟩;refine⟨by rw[show (d==0)=false from by simp;omega],_,h1,λ_=>?_,λ e=>by omega,own_z1 h4 hi⟩;rw[show d=2 by omega];exact .rep hv h2 (h4.blk hq (λ e=>by rcases e with e|e|e;exact hqi e;exact hb (e ▸ hqz);exact hg (e ▸ hqz))) h3 (λ k hk=>⟨.inl (hzz k hk).1,(hzz k hk).2⟩) (hz hi) (hz hqz) hqi
 | rep hv h hq hf hzz hi hqz hqi =>
  rename_i q r tk Zf
  have hib:i≠b:=λ e=>hb (e ▸ hi);have hig:i≠g:=λ e=>hg (e ▸ hi);refine(gro_replace (Cf.N:Int) F fb fd hl hd i lv _ root tk false w b g _ k hm hib hig hk r Zf (λ e=>(hzz i e).2.1 rfl) (λ e=>hb (hzz b e).1) (λ e=>hg (hzz g e).1) _ _ (Nv+1) 1 _ hf rfl (by show 1<=_;omega) (by omega) h).mono ?_;rintro e w' ⟨rfl,h1,h2,h3,h4⟩;refine⟨by rw[show (d==0)=false from by simp;omega],_,h1,λ_=>?_,λ e=>by omega,own_z1 h4 hi⟩;rw[show d=1 by omega];exact .lev hv h2 (h4.blk hq (λ e=>by rcases e with e|e|e;exact hqi e;exact hb (e ▸ hqz);exact hg (e ▸ hqz))) (hz hi) (hz hqz) hqi
 | lev hv h hq hi hqz hqi =>
  rename_i q tk fr
  have hib:i≠b:=λ e=>hb (e ▸ hi);have hig:i≠g:=λ e=>hg (e ▸ hi);refine(gro_leave (Cf.N:Int) F fb fd hl hd i lv root tk fr false w b g _ k hm hib hig hk q W ⟨#[]⟩ 0 _ hq O.word h).mono ?_;rintro e w' ⟨rfl,h1,h2,h4⟩;refine⟨by rw[show (d==0)=true from by simp;omega],_,h1,λ_=>by omega,λ_=>⟨?_,?_⟩,own_z1 h4 hi⟩
  ·unfold glE;rw[if_pos hv];rfl
  ·have:=h2.k 16 rfl
   rw[this];unfold gful;simp[hv]
 | levF hv h hq hi hqz hqi =>
  rename_i q tk fr
  have hib:i≠b:=λ e=>hb (e ▸ hi);have hig:i≠g:=λ e=>hg (e ▸ hi);refine(gro_leave (Cf.N:Int) F fb fd hl hd i lv root tk fr true w b g _ k hm hib hig hk q W ⟨#[]⟩ 0 _ hq O.word h).mono ?_;rintro e w' ⟨rfl,h1,h2,h4⟩;refine⟨by rw[show (d==0)=true from by simp;omega],_,h1,λ_=>by omega,λ_=>⟨?_,?_⟩,own_z1 h4 hi⟩
  ·unfold glE;rw[if_neg hv];rfl
  ·have:=h2.k 16 rfl
   rw[this];unfold gful;simp[hv]
end
end
end Go.Proofs.YtlkgmnjceghpiaaGreat
