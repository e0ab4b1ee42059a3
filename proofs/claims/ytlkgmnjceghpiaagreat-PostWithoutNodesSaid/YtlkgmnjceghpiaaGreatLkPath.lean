/-
 A Find and a Lock as plain states: their steps in whatever memory. Condition: the kit's small configurations;fewer than 2^63 accesses so far.
-/
import Derived.Test.YtlkgmnjceghpiaaGreatLkLock
import Derived.Test.YtlkgmnjceghpiaaGreatTgTree
namespace Go.Proofs.YtlkgmnjceghpiaaGreat
open Go.RowKit Go.Deep Plain
variable [Cf]
set_option linter.unusedVariables false
set_option linter.unusedSectionVars false

inductive Fs
 | root
 | rd (n:Nat) (y:Rst)
 | arr (n:Nat) (y:Rst)
 | no
def Fs.fin:Fs->Bool
 | .arr _ _=>true
 | .no=>true
 | _=>false
def fdo(key:ByteArray)(lvl n:Nat)(y:Rst):Fs :=
 if y.ph=3 then (if (nxF key lvl y.s.pg).1=1 then .rd (nxF key lvl y.s.pg).2.1 rst0 else if (nxF key lvl y.s.pg).1=2 then .arr n y else .no) else .rd n y
def fgo(F:Nat)(key:ByteArray)(lvl:Nat)(l:List Cel):Fs->Fs
 | .root=>.rd (cellAt l 0).1.toNat rst0
 | .rd n y=>fdo key lvl n (rgo F n l y)
 | s=>s
def Fok(F:Nat)(key:ByteArray)(lvl:Nat)(l:List Cel):Fs->Prop
 | .root=>(cellAt l 0).1.toNat≠0
 | .rd n y=>Okr F y/\y.ph<3/\((rgo F n l y).ph=3->Asc (rgo F n l y).s.xs/\((nxF key lvl (rgo F n l y).s.pg).1=1->(nxF key lvl (rgo F n l y).s.pg).2.1≠0))
 | _=>False
inductive FAt (Z:Nat->Prop) (w:World) (F:Nat) (fb fd:Int) (x:Nat) (key:ByteArray) (lvl:Nat):Fs->Prop
 | root {nid:Nat} {rp:Value} (hz:∀ i,Z i->i<w.heap.size) (hx:¬ Z x) (h:Blk w x 102 (wkv F fb fd nid rp 0 (tlF key lvl ⟨#[]⟩))):FAt Z w F fb fd x key lvl .root
 | rd {n:Nat} {y:Rst} (h:Wkr Z w F fb fd x 102 (tlF key lvl ⟨#[]⟩) n 1 y):FAt Z w F fb fd x key lvl (.rd n y)
 | arr {n:Nat} {y:Rst} (hy:y.ph=3) (h:Wkr Z w F fb fd x 102 (tlF key lvl ⟨#[]⟩) n 2 y) (hok:Okr F y):FAt Z w F fb fd x key lvl (.arr n y)
 | no {nid:Nat} {rp:Value} (hz:∀ i,Z i->i<w.heap.size) (hx:¬ Z x) (h:Blk w x 102 (wkv F fb fd nid rp 3 (tlF key lvl ⟨#[]⟩))):FAt Z w F fb fd x key lvl .no
theorem FAt.lt{Z:Nat->Prop}{w:World}{F:Nat}{fb fd:Int}{x:Nat}{key:ByteArray}{lvl:Nat}{s:Fs}(h:FAt Z w F fb fd x key lvl s):∀ i,Z i->i<w.heap.size:=by
 cases h with
 | root hz _ _=>exact hz
 | rd h=>obtain⟨q,_,h2,_⟩:=h;exact h2.lt
 | arr _ h _=>obtain⟨q,_,h2,_⟩:=h;exact h2.lt
 | no hz _ _=>exact hz
theorem FAt.out{Z:Nat->Prop}{w:World}{F:Nat}{fb fd:Int}{x:Nat}{key:ByteArray}{lvl:Nat}{s:Fs}(h:FAt Z w F fb fd x key lvl s):¬ Z x/\x<w.heap.size:=by
 cases h with
 | root _ hx h=>exact⟨hx,h.lt⟩
 | rd h=>obtain⟨q,h1,_,h3⟩:=h;exact⟨h3,h1.lt⟩
 | arr _ h _=>obtain⟨q,h1,_,h3⟩:=h;exact⟨h3,h1.lt⟩
 | no _ hx h=>exact⟨hx,h.lt⟩
theorem FAt.kept{Z Y:Nat->Prop}{w w':World}{F:Nat}{fb fd:Int}{x:Nat}{key:ByteArray}{lvl:Nat}{s:Fs}(h:FAt Z w F fb fd x key lvl s)(hk:Kept Y w w')(hx:¬ Y x)(hZ:∀ i,Z i->¬ Y i):FAt Z w' F fb fd x key lvl s:=by
 cases h with
 | root hz ho h=>exact .root (λ i hi=>Nat.lt_of_lt_of_le (hz i hi) hk.size) ho (hk.blk h hx)
 | rd h=>obtain⟨q,h1,h2,h3⟩:=h;exact .rd ⟨q,hk.blk h1 hx,h2.kept hk hZ,h3⟩
 | arr hy h ho=>obtain⟨q,h1,h2,h3⟩:=h;exact .arr hy ⟨q,hk.blk h1 hx,h2.kept hk hZ,h3⟩ ho
 | no hz ho h=>exact .no (λ i hi=>Nat.lt_of_lt_of_le (hz i hi) hk.size) ho (hk.blk h hx)
theorem Oks.len40{F:Nat}{s:Cs}(h:Oks F s)(h6:F<=6):s.xs.length<=1099511627776:=by
 have:=h.xs;have:=h.lt;omega
theorem nxF_cases(key:ByteArray)(lvl:Nat)(P:Pg):(nxF key lvl P).1=1\/(nxF key lvl P).1=2\/(nxF key lvl P).1=3:=by
 unfold nxF;split
 ·exact .inr (.inr rfl)
 ·split
  ·exact .inl rfl
  ·split
   ·exact .inl rfl
   ·exact .inr (.inl rfl)
theorem find_go(F:Nat)(h4:4<=F)(h6:F<=6)(fb fd:Int)(hd:Reach3 10 fb fd)(Z:Nat->Prop)(x:Nat)(key:ByteArray)(lvl:Nat)(s:Fs)(w:World)(b g:Nat)(l:List Cel)(k:Nat)(hm:Mem w b g l k)(hk:k<9223372036854775808)(hb:¬ Z b)(hg:¬ Z g)(hxb:x≠b)(hxg:x≠g)(hn:Nats l)(hok:Fok F key lvl l s)(h:FAt Z w F fb fd x key lvl s) :
  Calls Tryz.prog 26 #[.pointer (some ⟨x,0,none⟩),.pointer (some ⟨b,0,none⟩)] w λ e w'=>e=.returned (.bool (fgo F key lvl l s).fin)/\Mem w' b g l (k+1)/\∃ Z',FAt Z' w' F fb fd x key lvl (fgo F key lvl l s)/\Kept (λ i=>i=x\/Z i\/i=b\/i=g) w w'/\(∀ i,Z' i->Z i\/w.heap.size<=i):=by
 cases h with
 | no _ _ h=>exact hok.elim
 | arr _ h _=>exact hok.elim
 | root hz ho hB =>
  rename_i nid rp
  have hx0:=hB.lt;obtain⟨N,M,K,hc,hN,hM⟩:=hn 0;have e1:(cellAt l 0).1.toNat=N:=by rw[hc];rfl
  have hN0:N≠0:=by have:(cellAt l 0).1.toNat≠0:=hok;rwa [e1] at this
  refine(fs_root F h4 h6 fb fd hd x nid rp _ w hB b g l k hm hk hxb hxg N hN0 M K hc).mono ?_;rintro e w' ⟨q,rfl,hM,hB,hC,hq,hK⟩;have e2:fgo F key lvl l .root=.rd N rst0:=by show Fs.rd _ _=_;rw[e1]
  rw[e2];exact⟨rfl,hM,λ i=>i=q,.rd ⟨q,hB,hC,λ e=>by omega⟩,hK.mono (λ i h=>by rcases h with h|h|h;exact .inl h;exact .inr (.inr (.inl h));exact .inr (.inr (.inr h))),λ i hi=>.inr (by omega)⟩
 | rd hW =>
  rename_i n y0
  obtain⟨ho,hp,hfin⟩:=hok;obtain⟨q,h1,h2,h3⟩:=hW;have hxl:=h1.lt;have hok1:Okr F (rgo F n l y0):=rgo_ok ho hn;have HS:=λ r hr=>rstep_go Z F h4 h6 fb fd hd q n y0 (rgo F n l y0) w h2 ho b g l k (k+1) hm hb hg hk hn rfl (if_pos hp) r hr;have e0:fgo F key lvl l (.rd n y0)=fdo key lvl n (rgo F n l y0):=rfl;rw[e0];generalize rgo F n l y0=y at *
  by_cases hy3:y.ph=3
  ·have HS1:=HS true (by simp[hy3])
   clear HS;have h40:=hok1.s.len40 h6;obtain⟨hasc,hne⟩:=hfin hy3;have e1:fdo key lvl n y=(if (nxF key lvl y.s.pg).1=1 then .rd (nxF key lvl y.s.pg).2.1 rst0 else if (nxF key lvl y.s.pg).1=2 then .arr n y else .no):=if_pos hy3;rw[e1];rcases nxF_cases key lvl y.s.pg with hx|hx|hx
   ·rw[if_pos hx]
    obtain⟨m,hm0⟩:∃ m,(nxF key lvl y.s.pg).2.1=m:=⟨_,rfl⟩;obtain⟨lo,hlo⟩:∃ lo,nxF key lvl y.s.pg=(1,m,lo):=⟨(nxF key lvl y.s.pg).2.2,by rw[←hx, ←hm0]⟩;obtain⟨hle,hor⟩:=nxF_1 hlo;have hmz:m≠0:=by rw[←hm0];exact hne hx
    rw[hm0];have HT:∀(W:World) (A:Option Addr) (c:Nat),w.heap.size<=W.heap.size->Blk W x 102 (wkv F fb fd n (.pointer (some ⟨q,0,none⟩)) 1 (tlF key lvl ⟨#[]⟩))->Rs W A c y.s.xs->Calls Tryz.prog 55 #[.pointer (some ⟨x,0,none⟩),.agg #[.int .i64 y.s.lv,.slice A y.s.xs.length c,.string y.s.hi,.bool y.s.la,.int .u64 y.s.rt]] W λ e w'=>e=.returned (.tuple #[])/\∃ nid2 rp2,Blk w' x 102 (wkv F fb fd nid2 rp2 1 (tlF key lvl ⟨#[]⟩))/\(λ w' nid2 rp2=>nid2=m/\∃ q2,rp2=.pointer (some ⟨q2,0,none⟩)/\Con (λ i=>i=q2) w' 1 2 Cf.N Cf.C Cf.R F Cf.K 10 fb fd q2 196 m cs0 [.int .u64 0,.int .i64 0]/\w.heap.size<=q2) w' nid2 rp2/\Kept (λ i=>i=x) W w':=by
     intro W A c hs hB hR;rcases hor with⟨hwi,rfl⟩|⟨hwi,hlt,rfl⟩
     ·refine(fturn_right F h4 h6 fb fd hd x n _ 1 key lvl W hB y.s.lv A c y.s.hi y.s.la y.s.rt y.s.xs _ rfl h40 hR hasc hle hwi hmz).mono ?_
      rintro e w' ⟨q2,he,hB,hC,hq,hK⟩;exact⟨he,_,_,hB,⟨rfl,q2,rfl,hC,Nat.le_trans hs hq⟩,hK⟩
     ·refine(fturn_down F h4 h6 fb fd hd x n _ 1 key lvl W hB y.s.lv A c y.s.hi y.s.la y.s.rt y.s.xs _ rfl h40 hR hasc hlt hwi _ _ _ rfl hmz).mono ?_
      rintro e w' ⟨q2,he,hB,hC,hq,hK⟩;exact⟨he,_,_,hB,⟨rfl,q2,rfl,hC,Nat.le_trans hs hq⟩,hK⟩
    refine(fs_turn1 Z F fb fd x n q (tlF key lvl ⟨#[]⟩) w h1 h3 b g (k+1) l hxb hxg y hy3 h40 HS1 (tlF key lvl ⟨#[]⟩) (λ w' nid2 rp2=>nid2=m/\∃ q2,rp2=.pointer (some ⟨q2,0,none⟩)/\Con (λ i=>i=q2) w' 1 2 Cf.N Cf.C Cf.R F Cf.K 10 fb fd q2 196 m cs0 [.int .u64 0,.int .i64 0]/\w.heap.size<=q2) HT).mono ?_;rintro e w' ⟨rfl,hM,nid2,rp2,hB,⟨rfl,q2,rfl,hC2,hq2⟩,Z',hC,hZx,hK,hN⟩;exact⟨rfl,hM,λ i=>i=q2,.rd ⟨q2,hB,hC2,λ e=>by omega⟩,hK,λ i hi=>.inr (by omega)⟩
   ·rw[if_neg (by omega),if_pos hx]
    obtain⟨heq,hwi⟩:=nxF_2 hx;refine(fs_turn2 Z F fb fd x n q (tlF key lvl ⟨#[]⟩) w h1 h3 b g (k+1) l hxb hxg y hy3 h40 HS1 (tlF key lvl ⟨#[]⟩) (λ w' nid2 rp2=>nid2=n/\rp2=.pointer (some ⟨q,0,none⟩)) (λ W A c hs hB hR=>(fturn_here F h4 h6 fb fd hd x n _ 1 key lvl W hB y.s.lv A c y.s.hi y.s.la y.s.rt y.s.xs _ rfl h40 hR hasc heq hwi).mono (λ e w' ⟨he,hB,hK⟩=>⟨he,_,_,hB,⟨rfl,rfl⟩,hK⟩))).mono ?_;rintro e w' ⟨rfl,hM,nid2,rp2,hB,⟨rfl,rfl⟩,Z',hC,hZx,hK,hN⟩;exact⟨rfl,hM,Z',.arr hy3 ⟨q,hB,hC,hZx⟩ hok1,hK,hN⟩
   ·rw[if_neg (by omega),if_neg (by omega)]
    have hlt:=nxF_3 hx;refine(fs_turn3 Z F fb fd x n q (tlF key lvl ⟨#[]⟩) w h1 h3 b g (k+1) l hxb hxg y hy3 h40 HS1 (tlF key lvl ⟨#[]⟩) (λ w' nid2 rp2=>True) (λ W A c hs hB hR=>(fturn_low F h4 h6 fb fd hd x n _ 1 key lvl W hB y.s.lv A c y.s.hi y.s.la y.s.rt y.s.xs _ rfl h40 hR hasc hlt).mono (λ e w' ⟨he,hB,hK⟩=>⟨he,_,_,hB,trivial,hK⟩))).mono ?_;rintro e w' ⟨rfl,hM,nid2,rp2,hB, -,Z',hC,hZx,hK,hN⟩;exact⟨rfl,hM,Z',.no hC.lt hZx hB,hK,hN⟩
  ·have HS1:=HS false (by simpa using hy3)
   have e1:fdo key lvl n y=.rd n y:=if_neg hy3;rw[e1];refine(fs_go Z F fb fd x n q _ w h1 h3 b g (k+1) l hxb hxg _ HS1).mono ?_;rintro e w' ⟨rfl,hM,Z',hW',hK,hN⟩;exact⟨rfl,hM,Z',.rd hW',hK,hN⟩
theorem find_said(F:Nat)(h6:F<=6)(fb fd:Int)(Z:Nat->Prop)(x:Nat)(key:ByteArray)(lvl:Nat)(n:Nat)(y:Rst)(w:World)(h:FAt Z w F fb fd x key lvl (.arr n y)) :
  Calls Tryz.prog 27 #[.pointer (some ⟨x,0,none⟩)] w λ e w'=>∃(lv:Nat) (A:Option Addr) (m c:Nat) (hi:ByteArray) (la:Bool) (rt:Nat),e=.returned (.tuple #[.int .u64 n,.agg #[.int .i64 lv,.slice A m c,.string hi,.bool la,.int .u64 rt]])/\Kept (λ_=>False) w w':=by
 cases h with
 | arr hy h hok =>
  obtain⟨q,h1,h2,h3⟩:=h;refine(fnode_got Z F fb fd x n q _ w h1 y h2 hy (hok.s.len40 h6)).mono ?_;rintro e w' ⟨A,c,rfl, -, -,hK⟩;exact⟨_,_,_,_,_,_,_,rfl,hK⟩
theorem find_none(F:Nat)(fb fd:Int)(Z:Nat->Prop)(x:Nat)(key:ByteArray)(lvl:Nat)(w:World)(h:FAt Z w F fb fd x key lvl .no) :
  Calls Tryz.prog 27 #[.pointer (some ⟨x,0,none⟩)] w λ e w'=>∃(lv:Nat) (A:Option Addr) (m c:Nat) (hi:ByteArray) (la:Bool) (rt:Nat),e=.returned (.tuple #[.int .u64 ((0:Nat):Int),.agg #[.int .i64 lv,.slice A m c,.string hi,.bool la,.int .u64 rt]])/\Kept (λ_=>False) w w':=by
 cases h with
 | no _ _ h =>
  refine(fnode_failed F fb fd x _ _ _ w h).mono ?_;rintro e w' ⟨rfl,hK⟩;exact⟨0,_,_,_,_,_,0,rfl,hK⟩

inductive Ls
 | fnd (s:Fs)
 | acq (n:Nat) (fr:Bool) (N:Nat) (K:ByteArray) (M:Int)
 | own (n wd:Nat) (s:Cs)
 | rel (n wd:Nat) (s:Cs)
 | lck (n wd:Nat) (s:Cs)
 | bad
def Ls.fin:Ls->Bool
 | .lck _ _ _=>true
 | .bad=>true
 | _=>false
def lto(n:Nat):Ls:=if 1<=n/\n<=Cf.N then .acq n false 0 ⟨#[]⟩ 0 else .bad
def lown(key:ByteArray)(n wd:Nat)(s:Cs):Ls:=if s.rd=s.en then (if (s.la||ltB key.toList s.hi.toList)=true then .lck n wd s else .rel n wd s) else .own n wd s
def ldo:Fs->Ls
 | .arr n _=>lto n
 | .no=>.bad
 | .root=>.fnd .root
 | .rd n y=>.fnd (.rd n y)
def lgo(F:Nat)(key:ByteArray)(lvl:Nat)(l:List Cel):Ls->Ls
 | .fnd s=>ldo (fgo F key lvl l s)
 | .acq n false _ _ _=>.acq n ((cellAt l (nla F n)).1.toNat%2==0) (cellAt l (nla F n)).1.toNat (cellAt l (nla F n)).2.1 (cellAt l (nla F n)).2.2
 | .acq n true N K M=>if swaps l (nla F n) (N:Int) then .own n (lockW N) cs0 else .acq n false N K M
 | .own n wd s=>lown key n wd (tk F s (cellAt l (nad F n s.rd)).1.toNat (cellAt l (nad F n s.rd)).2.1 (cellAt l (nad F n s.rd)).2.2.toNat)
 | .rel _ _ s=>lto s.rt
 | s=>s
def lmem(F:Nat)(l:List Cel):Ls->List Cel
 | .acq n true N K M=>if swaps l (nla F n) (N:Int) then putAt l (nla F n) ((lockW N:Nat),K,M) else l
 | .rel n wd _=>putAt l (nla F n) ((unlockW wd:Nat),⟨#[]⟩,0)
 | _=>l
def Lok(F:Nat)(key:ByteArray)(lvl:Nat)(l:List Cel):Ls->Prop
 | .fnd s=>Fok F key lvl l s
 | .acq _ _ N _ _=>N<18446744073709551616
 | .own _ _ s=>Oks F s/\(s.rd=0\/s.rd<s.en)
 | .rel _ wd s=>wd<18446744073709551616/\Oks F s
 | _=>True
inductive LAt (Z:Nat->Prop) (w:World) (F:Nat) (fb fd:Int) (x:Nat) (key:ByteArray) (lvl:Nat):Ls->Prop
 | fnd {Zf:Nat->Prop} {xf nid:Nat} {ap op rp:Value} {s:Fs} (h:Blk w x 124 (lkv F fb fd key 0 (.pointer (some ⟨xf,0,none⟩)) nid ap op rp)) (hf:FAt Zf w F fb fd xf key lvl s) (hx:Z x) (hxf:Z xf) (hz:∀ i,Zf i->Z i) (hne:xf≠x) (ho:¬ Zf x):LAt Z w F fb fd x key lvl (.fnd s)
 | acq {fp op rp:Value} {n q:Nat} {fr:Bool} {N:Nat} {K:ByteArray} {M:Int} (h:Blk w x 124 (lkv F fb fd key 1 fp n (.pointer (some ⟨q,0,none⟩)) op rp)) (ha:AcqB w q (nla F n) N K M fr false) (hx:Z x) (hq:Z q) (hne:q≠x):LAt Z w F fb fd x key lvl (.acq n fr N K M)
 | own {Zo:Nat->Prop} {fp ap rp:Value} {n q wd:Nat} {s:Cs} (h:Blk w x 124 (lkv F fb fd key 2 fp n ap (.pointer (some ⟨q,0,none⟩)) rp)) (hc:Con Zo w 1 2 Cf.N Cf.C Cf.R F Cf.K 10 fb fd q 163 n s [.int .u64 wd,.bool false]) (hx:Z x) (hz:∀ i,Zo i->Z i) (ho:¬ Zo x):LAt Z w F fb fd x key lvl (.own n wd s)
 | rel {Zo:Nat->Prop} {fp ap:Value} {n q r wd:Nat} {s:Cs} (h:Blk w x 124 (lkv F fb fd key 3 fp n ap (.pointer (some ⟨q,0,none⟩)) (.pointer (some ⟨r,0,none⟩)))) (hc:Con Zo w 1 2 Cf.N Cf.C Cf.R F Cf.K 10 fb fd q 163 n s [.int .u64 wd,.bool true]) (hr:RelB w r (nla F n) wd false) (hx:Z x) (hz:∀ i,Zo i->Z i) (ho:¬ Zo x) (hrz:Z r) (hrx:r≠x) (hro:¬ Zo r):LAt Z w F fb fd x key lvl (.rel n wd s)
 | lck {Zo:Nat->Prop} {fp ap rp:Value} {n q wd:Nat} {s:Cs} (h:Blk w x 124 (lkv F fb fd key 4 fp n ap (.pointer (some ⟨q,0,none⟩)) rp)) (hc:Con Zo w 1 2 Cf.N Cf.C Cf.R F Cf.K 10 fb fd q 163 n s [.int .u64 wd,.bool true]) (hx:Z x) (hz:∀ i,Zo i->Z i) (ho:¬ Zo x) (hok:Oks F s):LAt Z w F fb fd x key lvl (.lck n wd s)
 | bad {fp ap op rp:Value} {nid:Nat} (h:Blk w x 124 (lkv F fb fd key 5 fp nid ap op rp)) (hx:Z x):LAt Z w F fb fd x key lvl .bad
section
variable {Z Y:Nat->Prop} {w w':World} {F:Nat} {fb fd:Int} {x:Nat} {key:ByteArray} {lvl:Nat} {s:Ls}
theorem LAt.kept(h:LAt Z w F fb fd x key lvl s)(hk:Kept Y w w')(hZ:∀ i,Z i->¬ Y i):LAt Z w' F fb fd x key lvl s:=by
 cases h with
 | fnd h hf hx hxf hz hne ho=>exact .fnd (hk.blk h (hZ _ hx)) (hf.kept hk (hZ _ hxf) (λ i hi=>hZ i (hz i hi))) hx hxf hz hne ho
 | acq h ha hx hq hne=>exact .acq (hk.blk h (hZ _ hx)) (hk.blk ha (hZ _ hq)) hx hq hne
 | own h hc hx hz ho=>exact .own (hk.blk h (hZ _ hx)) (hc.kept hk (λ i hi=>hZ i (hz i hi))) hx hz ho
 | rel h hc hr hx hz ho hrz hrx hro=>exact .rel (hk.blk h (hZ _ hx)) (hc.kept hk (λ i hi=>hZ i (hz i hi))) (hk.blk hr (hZ _ hrz)) hx hz ho hrz hrx hro
 | lck h hc hx hz ho hok=>exact .lck (hk.blk h (hZ _ hx)) (hc.kept hk (λ i hi=>hZ i (hz i hi))) hx hz ho hok
 | bad h hx=>exact .bad (hk.blk h (hZ _ hx)) hx
end
def Zn(Z:Nat->Prop)(w w':World):Nat->Prop:=λ i=>Z i\/(w.heap.size<=i/\i<w'.heap.size)
theorem own_phase{key:ByteArray}{n wd:Nat}{s:Cs}:(lown key n wd s=.lck n wd s/\s.rd=s.en/\(s.la||ltB key.toList s.hi.toList)=true)\/(lown key n wd s=.rel n wd s/\s.rd=s.en/\(s.la||ltB key.toList s.hi.toList)=false)\/(lown key n wd s=.own n wd s/\s.rd≠s.en):=by
 unfold lown
 by_cases h:s.rd=s.en
 ·rw[if_pos h]
  cases hc:(s.la||ltB key.toList s.hi.toList)
  ·exact .inr (.inl ⟨if_neg (by simp),h,rfl⟩)
  ·exact .inl ⟨if_pos rfl,h,rfl⟩
 ·exact .inr (.inr ⟨if_neg h,h⟩)
theorem lock_go(F:Nat)(h4:4<=F)(h6:F<=6)(fb fd:Int)(hd:Reach3 10 fb fd)(Z:Nat->Prop)(x:Nat)(key:ByteArray)(lvl:Nat)(s:Ls)(w:World)(b g:Nat)(l:List Cel)(k:Nat)(hm:Mem w b g l k)(hk:k<9223372036854775808)(hb:¬ Z b)(hg:¬ Z g)(hn:Nats l)(hok:Lok F key lvl l s)(h:LAt Z w F fb fd x key lvl s) :
  Calls Tryz.prog 40 #[.pointer (some ⟨x,0,none⟩),.pointer (some ⟨b,0,none⟩)] w λ e w'=>e=.returned (.bool (lgo F key lvl l s).fin)/\Mem w' b g (lmem F l s) (if s.fin then k else k+1)/\LAt (Zn Z w w') w' F fb fd x key lvl (lgo F key lvl l s)/\Kept (λ i=>Z i\/i=b\/i=g) w w':=by
 cases h with
 | fnd h hf hx hxf hz hne ho =>
  rename_i Zf xf nid ap op rp s
  have hxl:=h.lt;have hxb:x≠b:=λ e=>hb (e ▸ hx);have hxg:x≠g:=λ e=>hg (e ▸ hx);have hfo:=hf.out;have HS:=find_go F h4 h6 fb fd hd Zf xf key lvl s w b g l k hm hk (λ h=>hb (hz _ h)) (λ h=>hg (hz _ h)) (λ e=>hb (e ▸ hxf)) (λ e=>hg (e ▸ hxf)) hn hok hf;have hbl:=hm.obj.lt;have hgl:=hm.row.lt
  -- what the inner machine leaves
  have hQ:∀ w',(Mem w' b g l (k+1)/\∃ Z',FAt Z' w' F fb fd xf key lvl (fgo F key lvl l s)/\Kept (λ i=>i=xf\/Zf i\/i=b\/i=g) w w'/\(∀ i,Z' i->Zf i\/w.heap.size<=i))->Blk w' x 124 (lkv F fb fd key 0 (.pointer (some ⟨xf,0,none⟩)) nid ap op rp):=by
   rintro w' ⟨-,Z', -,hK, -⟩;exact hK.blk h (λ e=>by rcases e with e|e|e|e;exact hne e.symm;exact ho e;exact hxb e;exact hxg e)
  have hK0:∀ w',Kept (λ i=>i=xf\/Zf i\/i=b\/i=g) w w'->Kept (λ i=>Z i\/i=b\/i=g) w w':=λ w' hK=>hK.mono (λ i e=>by rcases e with e|e|e|e;exact .inl (e ▸ hxf);exact .inl (hz i e);exact .inr (.inl e);exact .inr (.inr e));have hZ1:∀(w':World) (Z':Nat->Prop),(∀ i,Z' i->i<w'.heap.size)->(∀ i,Z' i->Zf i\/w.heap.size<=i)->∀ i,Z' i->Zn Z w w' i:=λ w' Z' h1 h2 i hi=>by
   rcases h2 i hi with h|h
   ·exact .inl (hz i h)
   ·exact .inr ⟨h,h1 i hi⟩
  have e0:lgo F key lvl l (.fnd s)=ldo (fgo F key lvl l s):=rfl;have e1:lmem F l (.fnd s)=l:=rfl;rw[e0,e1];generalize fgo F key lvl l s=s' at *;have go:s'.fin=false->(ldo s')=.fnd s'->Calls Tryz.prog 40 #[.pointer (some ⟨x,0,none⟩),.pointer (some ⟨b,0,none⟩)] w λ e w'=>e=.returned (.bool (ldo s').fin)/\Mem w' b g l (if (Ls.fnd s).fin then k else k+1)/\LAt (Zn Z w w') w' F fb fd x key lvl (ldo s')/\Kept (λ i=>Z i\/i=b\/i=g) w w':=by
   intro hs he;rw[he];refine(lk_find_go F fb fd key x xf b nid ap op rp w h _ (HS.mono (λ e w' hh=>⟨by rw[←hs];exact hh.1,hh.2⟩)) hQ).mono ?_;rintro e w' ⟨rfl,hM,Z',hF,hK,hN⟩;exact⟨rfl,hM,.fnd (hQ w' ⟨hM,Z',hF,hK,hN⟩) hF (.inl hx) (.inl hxf) (hZ1 w' Z' hF.lt hN) hne (λ e=>by rcases hN x e with e|e;exact ho e;omega),hK0 w' hK⟩
  cases s' with
  | root=>exact go rfl rfl
  | rd n y=>exact go rfl rfl
  | arr n y =>
   have hN:∀ w1,(Mem w1 b g l (k+1)/\∃ Z',FAt Z' w1 F fb fd xf key lvl (.arr n y)/\Kept (λ i=>i=xf\/Zf i\/i=b\/i=g) w w1/\(∀ i,Z' i->Zf i\/w.heap.size<=i))->Calls Tryz.prog 27 #[.pointer (some ⟨xf,0,none⟩)] w1 λ e w'=>∃(lv:Nat) (A:Option Addr) (m c:Nat) (hi:ByteArray) (la:Bool) (rt:Nat),e=.returned (.tuple #[.int .u64 n,.agg #[.int .i64 lv,.slice A m c,.string hi,.bool la,.int .u64 rt]])/\Kept (λ_=>False) w1 w':=by
    rintro w1 ⟨-,Z',hF, -, -⟩;exact find_said F h6 fb fd Z' xf key lvl n y w1 hF
   by_cases hr:1<=n/\n<=Cf.N
   ·have e2:ldo (.arr n y)=.acq n false 0 ⟨#[]⟩ 0:=if_pos hr
    rw[e2];refine(lk_find_yes F h4 h6 fb fd hd key x xf b nid ap op rp n hr.1 hr.2 w h _ (HS.mono (λ e w' hh=>⟨hh.1,hh.2⟩)) hQ hN).mono ?_;rintro e w' ⟨rfl,w1,q2,⟨hM,Z',hF,hK,hN⟩,hB,hA,hq,hK2⟩;have hs1:=hK.size;have hxb':b≠x:=λ e=>hxb e.symm;have hxg':g≠x:=λ e=>hxg e.symm;exact⟨rfl,hM.kept hK2 hxb' hxg',.acq hB hA (.inl hx) (.inr ⟨by omega,hA.lt⟩) (by omega),(hK0 w1 hK).trans hK2 (λ i _ e=>.inl (e ▸ hx))⟩
   ·have e2:ldo (.arr n y)=.bad:=if_neg hr
    rw[e2];refine(lk_find_no F h4 h6 fb fd hd key x xf b nid ap op rp n (by omega) w h _ (HS.mono (λ e w' hh=>⟨hh.1,hh.2⟩)) hQ hN).mono ?_;rintro e w' ⟨rfl,w1,⟨hM,Z',hF,hK,hN⟩,hB,hK2⟩;have hxb':b≠x:=λ e=>hxb e.symm;have hxg':g≠x:=λ e=>hxg e.symm;exact⟨rfl,hM.kept hK2 hxb' hxg',.bad hB (.inl hx),(hK0 w1 hK).trans hK2 (λ i _ e=>.inl (e ▸ hx))⟩
  | no =>
   have hN:∀ w1,(Mem w1 b g l (k+1)/\∃ Z',FAt Z' w1 F fb fd xf key lvl .no/\Kept (λ i=>i=xf\/Zf i\/i=b\/i=g) w w1/\(∀ i,Z' i->Zf i\/w.heap.size<=i))->Calls Tryz.prog 27 #[.pointer (some ⟨xf,0,none⟩)] w1 λ e w'=>∃(lv:Nat) (A:Option Addr) (m c:Nat) (hi:ByteArray) (la:Bool) (rt:Nat),e=.returned (.tuple #[.int .u64 ((0:Nat):Int),.agg #[.int .i64 lv,.slice A m c,.string hi,.bool la,.int .u64 rt]])/\Kept (λ_=>False) w1 w':=by
    rintro w1 ⟨-,Z',hF, -, -⟩;exact find_none F fb fd Z' xf key lvl w1 hF
   refine(lk_find_no F h4 h6 fb fd hd key x xf b nid ap op rp 0 (by omega) w h _ (HS.mono (λ e w' hh=>⟨hh.1,hh.2⟩)) hQ hN).mono ?_;rintro e w' ⟨rfl,w1,⟨hM,Z',hF,hK,hN⟩,hB,hK2⟩;have hxb':b≠x:=λ e=>hxb e.symm;have hxg':g≠x:=λ e=>hxg e.symm;exact⟨rfl,hM.kept hK2 hxb' hxg',.bad hB (.inl hx),(hK0 w1 hK).trans hK2 (λ i _ e=>.inl (e ▸ hx))⟩
 | acq h ha hx hq hne =>
  rename_i fp op rp n q fr N K M
  have hxl:=h.lt;have hqb:q≠b:=λ e=>hb (e ▸ hq);have hqg:q≠g:=λ e=>hg (e ▸ hq);have hxb:x≠b:=λ e=>hb (e ▸ hx);have hxg:x≠g:=λ e=>hg (e ▸ hx);have hfar:¬ Own3 q b g x:=λ e=>by rcases e with e|e|e;exact hne e.symm;exact hxb e;exact hxg e
  have hK0:∀ w',Kept (Own3 q b g) w w'->Kept (λ i=>Z i\/i=b\/i=g) w w':=λ w' hK=>hK.mono (λ i e=>by rcases e with e|e|e;exact .inl (e ▸ hq);exact .inr (.inl e);exact .inr (.inr e));cases fr with
  | false =>
   obtain⟨N1,M1,K1,hc,hN1, -⟩:=hn (nla F n);have e0:lgo F key lvl l (.acq n false N K M)=.acq n (N1%2==0) N1 K1 (M1:Int):=by
    show Ls.acq n ((cellAt l (nla F n)).1.toNat%2==0) (cellAt l (nla F n)).1.toNat (cellAt l (nla F n)).2.1 (cellAt l (nla F n)).2.2=_;rw[hc];rfl
   have e1:lmem F l (.acq n false N K M)=l:=rfl;rw[e0,e1];have HS:=acqStep_load q b g l k (nla F n) N1 N K1 K (M1:Int) M w ha hm hqb hqg hk hc hN1;refine(lk_acq_go F fb fd key x q b n fp op rp w h _ HS (λ w' q=>q.2.2.blk h hfar)).mono ?_;rintro e w' ⟨rfl,hM,hA,hK⟩;exact⟨rfl,hM,.acq (hK.blk h hfar) hA (.inl hx) (.inl hq) hne,hK0 w' hK⟩
  | true =>
   have hN:N<18446744073709551616:=hok;obtain⟨r,hr⟩:∃ r,swaps l (nla F n) (N:Int)=r:=⟨_,rfl⟩;obtain⟨l',hl'⟩:∃ l',(if r then putAt l (nla F n) (((lockW N:Nat):Int),K,M) else l)=l':=⟨_,rfl⟩;have HS:=acqStep_swap q b g l l' k (nla F n) N K M r w ha hm hqb hqg hk hN hr hl';have e0:lgo F key lvl l (.acq n true N K M)=if r then .own n (lockW N) cs0 else .acq n false N K M:=by rw[←hr];rfl
   have e1:lmem F l (.acq n true N K M)=l':=by rw[←hl', ←hr];rfl
   rw[e0,e1];cases r with
   | false =>
    refine(lk_acq_go F fb fd key x q b n fp op rp w h _ HS (λ w' q=>q.2.2.blk h hfar)).mono ?_;rintro e w' ⟨rfl,hM,hA,hK⟩;exact⟨rfl,hM,.acq (hK.blk h hfar) hA (.inl hx) (.inl hq) hne,hK0 w' hK⟩
   | true =>
    refine(lk_acq_end F h4 h6 fb fd hd key x q b n fp op rp (nla F n) N K M false hN w h _ HS (λ w' q=>⟨q.2.2.blk h hfar,q.2.1⟩)).mono ?_;rintro e w' ⟨rfl,w1,q2,⟨hM,hA,hK⟩,hB,hC,hq2,hK2⟩;have hs1:=hK.size;have hs2:=hC.lt q2 rfl;refine⟨rfl,hM.kept hK2 (λ e=>hxb e.symm) (λ e=>hxg e.symm),?_,(hK0 w1 hK).trans hK2 (λ i _ e=>.inl (e ▸ hx))⟩;exact .own hB hC (.inl hx) (λ i hi=>.inr ⟨by omega,by omega⟩) (λ e=>by omega)
 | own h hc hx hz ho =>
  rename_i Zo fp ap rp n q wd s
  obtain⟨hoks,hlt⟩:=hok;have hxl:=h.lt;have hxb:x≠b:=λ e=>hb (e ▸ hx);have hxg:x≠g:=λ e=>hg (e ▸ hx);obtain⟨nN,mM,kK,hcc,hN,hM⟩:=hn (nad F n s.rd);obtain⟨s',hs'⟩:∃ s',tk F s nN kK mM=s':=⟨_,rfl⟩;have e0:lgo F key lvl l (.own n wd s)=lown key n wd s':=by
   show lown key n wd (tk F s (cellAt l (nad F n s.rd)).1.toNat (cellAt l (nad F n s.rd)).2.1 (cellAt l (nad F n s.rd)).2.2.toNat)=_;rw[hcc, ←hs'];rfl
  have e1:lmem F l (.own n wd s)=l:=rfl;rw[e0,e1];have hoks':Oks F s':=by rw[←hs'];exact tk_oks hoks hlt _ _ _
  have h40:=hoks'.len40 h6;have HS:=λ r hr=>ostep_any Zo 1 2 Cf.N Cf.C Cf.R F Cf.K 10 fb fd (limF h4 h6) hd q n s s' wd w hc b g l k hm (λ e=>hb (hz _ e)) (λ e=>hg (hz _ e)) hk hoks hlt (nad F n s.rd) rfl nN mM kK hcc hN hM hs' r hr;have hfar:¬ (Zo x\/x=b\/x=g):=λ e=>by rcases e with e|e|e;exact ho e;exact hxb e;exact hxg e
  have hK0:∀ w',Kept (λ i=>Zo i\/i=b\/i=g) w w'->Kept (λ i=>Z i\/i=b\/i=g) w w':=λ w' hK=>hK.mono (λ i e=>by rcases e with e|e|e;exact .inl (hz i e);exact .inr (.inl e);exact .inr (.inr e));have hZ1:∀(w' w2:World) (Z':Nat->Prop),(∀ i,Z' i->i<w2.heap.size)->(∀ i,Z' i->Zo i\/w.heap.size<=i)->∀ i,Z' i->Zn Z w w2 i:=λ w' w2 Z' h1 h2 i hi=>by
   rcases h2 i hi with h|h
   ·exact .inl (hz i h)
   ·exact .inr ⟨h,h1 i hi⟩
  have hx1:∀ Z':Nat->Prop,(∀ i,Z' i->Zo i\/w.heap.size<=i)->¬ Z' x:=λ Z' h2 e=>by rcases h2 x e with e|e;exact ho e;omega
  rcases own_phase (key:=key) (n:=n) (wd:=wd) (s:=s') with⟨e2,hre,hcov⟩|⟨e2,hre,hcov⟩|⟨e2,hre⟩
  ·rw[e2]
   have HS1:=HS true (by simp[hre]);refine(lk_own_yes F h4 h6 fb fd hd key x q b n fp ap rp s' wd h40 hcov w h _ HS1 (λ w' qq=>by obtain⟨-,Z',hC,hK, -⟩:=qq;exact⟨hK.blk h hfar,Z',hC⟩)).mono ?_;rintro e w' ⟨rfl,w1,⟨hM,Z',hC,hK,hN⟩,hB,hK2⟩;have hC2:=hC.kept hK2 (λ i hi e=>hx1 Z' hN (e ▸ hi));exact⟨rfl,hM.kept hK2 (λ e=>hxb e.symm) (λ e=>hxg e.symm),.lck hB hC2 (.inl hx) (hZ1 w1 w' Z' hC2.lt hN) (hx1 Z' hN) hoks',(hK0 w1 hK).trans hK2 (λ i _ e=>.inl (e ▸ hx))⟩
  ·rw[e2]
   have HS1:=HS true (by simp[hre]);refine(lk_own_no F h4 h6 fb fd hd key x q b n fp ap rp s' wd h40 hcov w h _ HS1 (λ w' qq=>by obtain⟨-,Z',hC,hK, -⟩:=qq;exact⟨hK.blk h hfar,Z',hC⟩)).mono ?_;rintro e w' ⟨rfl,w1,q2,⟨hM,Z',hC,hK,hN⟩,hB,hR,hq2,hK2⟩;have hC2:=hC.kept hK2 (λ i hi e=>hx1 Z' hN (e ▸ hi));have hs1:=hK.size;exact⟨rfl,hM.kept hK2 (λ e=>hxb e.symm) (λ e=>hxg e.symm),.rel hB hC2 hR (.inl hx) (hZ1 w1 w' Z' hC2.lt hN) (hx1 Z' hN) (.inr ⟨by omega,hR.lt⟩) (by omega) (λ e=>by have:=hC.lt q2 e;omega),(hK0 w1 hK).trans hK2 (λ i _ e=>.inl (e ▸ hx))⟩
  ·rw[e2]
   have HS1:=HS false (by simpa using hre);refine(lk_own_go F fb fd key x q b n fp ap rp w h _ HS1 (λ w' qq=>by obtain⟨-,Z',hC,hK, -⟩:=qq;exact hK.blk h hfar)).mono ?_;rintro e w' ⟨rfl,hM,Z',hC,hK,hN⟩;exact⟨rfl,hM,.own (hK.blk h hfar) hC (.inl hx) (hZ1 w' w' Z' hC.lt hN) (hx1 Z' hN),hK0 w' hK⟩
 | rel h hc hr hx hz ho hrz hrx hro =>
  rename_i Zo fp ap n q r wd s
  obtain⟨hwd,hoks⟩:=hok;have h40:=hoks.len40 h6;have hxl:=h.lt;have hxb:x≠b:=λ e=>hb (e ▸ hx);have hxg:x≠g:=λ e=>hg (e ▸ hx);have hrb:r≠b:=λ e=>hb (e ▸ hrz);have hrg:r≠g:=λ e=>hg (e ▸ hrz);have hfar:¬ Own3 r b g x:=λ e=>by rcases e with e|e|e;exact hrx e.symm;exact hxb e;exact hxg e
  have hfar2:∀ i,Zo i->¬ Own3 r b g i:=λ i hi e=>by rcases e with e|e|e;exact hro (e ▸ hi);exact hb (hz _ (e ▸ hi));exact hg (hz _ (e ▸ hi))
  have hK0:∀ w',Kept (Own3 r b g) w w'->Kept (λ i=>Z i\/i=b\/i=g) w w':=λ w' hK=>hK.mono (λ i e=>by rcases e with e|e|e;exact .inl (e ▸ hrz);exact .inr (.inl e);exact .inr (.inr e));have HS:=relStep_any r b g l k (nla F n) wd w hr hm hrb hrg hk hwd;have e0:lgo F key lvl l (.rel n wd s)=lto s.rt:=rfl;have e1:lmem F l (.rel n wd s)=putAt l (nla F n) (((unlockW wd:Nat):Int),⟨#[]⟩,0):=rfl;rw[e0,e1]
  by_cases hrt:1<=s.rt/\s.rt<=Cf.N
  ·have e2:lto s.rt=.acq s.rt false 0 ⟨#[]⟩ 0:=if_pos hrt
   rw[e2];refine(lk_rel_yes F h4 h6 fb fd hd key x q r b n fp ap s wd h40 hrt.1 hrt.2 w h _ HS (λ w' qq=>⟨qq.2.2.blk h hfar,Zo,hc.kept qq.2.2 hfar2⟩)).mono ?_;rintro e w' ⟨rfl,w1,q2,⟨hM,hR,hK⟩,hB,hA,hq2,hK2⟩;have hs1:=hK.size;exact⟨rfl,hM.kept hK2 (λ e=>hxb e.symm) (λ e=>hxg e.symm),.acq hB hA (.inl hx) (.inr ⟨by omega,hA.lt⟩) (by omega),(hK0 w1 hK).trans hK2 (λ i _ e=>.inl (e ▸ hx))⟩
  ·have e2:lto s.rt=.bad:=if_neg hrt
   rw[e2];refine(lk_rel_no F h4 h6 fb fd hd key x q r b n fp ap s wd h40 (by omega) w h _ HS (λ w' qq=>⟨qq.2.2.blk h hfar,Zo,hc.kept qq.2.2 hfar2⟩)).mono ?_;rintro e w' ⟨rfl,w1,⟨hM,hR,hK⟩,hB,hK2⟩;exact⟨rfl,hM.kept hK2 (λ e=>hxb e.symm) (λ e=>hxg e.symm),.bad hB (.inl hx),(hK0 w1 hK).trans hK2 (λ i _ e=>.inl (e ▸ hx))⟩
 | lck h hc hx hz ho hoks =>
  rename_i Zo fp ap rp n q wd s
  refine(lk_done_4 F fb fd key x b n fp ap _ rp w h).mono ?_;rintro e w' ⟨rfl,rfl⟩;exact⟨rfl,hm,.lck h hc (.inl hx) (λ i hi=>.inl (hz i hi)) ho hoks,Kept.refl _ _⟩
 | bad h hx =>
  rename_i fp ap op rp nid
  refine(lk_done_5 F fb fd key x b nid fp ap op rp w h).mono ?_;rintro e w' ⟨rfl,rfl⟩;exact⟨rfl,hm,.bad h (.inl hx),Kept.refl _ _⟩
theorem newLock_at(F:Nat)(fb fd:Int)(key:ByteArray)(lvl:Nat)(w:World) :
  Calls Tryz.prog 118 #[.agg #[.int .i64 1,.int .i64 2,.int .i64 Cf.N,.int .i64 Cf.C,.int .i64 Cf.R,.int .i64 F,.int .u64 Cf.K,.int .i64 10,.int .i64 fb,.int .i64 fd],.string key,.int .i64 lvl] w λ e w'=>∃(x:Nat) (Z:Nat->Prop),e=.returned (.pointer (some ⟨x,0,none⟩))/\LAt Z w' F fb fd x key lvl (.fnd .root)/\(∀ i,Z i->w.heap.size<=i/\i<w'.heap.size)/\Kept (λ_=>False) w w':=by
 refine(newLock_any F fb fd key lvl w).mono ?_;rintro e w' ⟨x,xf,rfl,hx,hxf,hne,hB,hBf,hK⟩;have h1:=hB.lt;have h2:=hBf.lt;exact⟨x,λ i=>i=x\/i=xf,rfl,.fnd (Zf:=λ_=>False) hB (.root (λ_ h=>h.elim) id hBf) (.inl rfl) (.inr rfl) (λ_ h=>h.elim) hne id,λ i hi=>by rcases hi with rfl|rfl<;>omega,hK⟩
def hval(A:Option Addr)(c n wd:Nat)(s:Cs):Value:=.agg #[.int .u64 n,.int .u64 wd,.int .i64 s.lv,.slice A s.xs.length c,.string s.hi,.bool s.la,.int .u64 s.rt]
theorem held_lck(F:Nat)(h6:F<=6)(fb fd:Int)(Z:Nat->Prop)(x:Nat)(key:ByteArray)(lvl n wd:Nat)(s:Cs)(w:World)(h:LAt Z w F fb fd x key lvl (.lck n wd s)) :
  Calls Tryz.prog 79 #[.pointer (some ⟨x,0,none⟩)] w λ e w'=>∃ A c,e=.returned (hval A c n wd s)/\Rs w' A c s.xs/\(∀ a,A=some a->w.heap.size<=a.block)/\Kept (λ_=>False) w w':=by
 cases h with
 | lck h hc hx hz ho hoks=>exact lheld_yes _ F fb fd key x _ n _ _ _ s wd (hoks.len40 h6) w h hc
theorem held_bad(F:Nat)(fb fd:Int)(Z:Nat->Prop)(x:Nat)(key:ByteArray)(lvl:Nat)(w:World)(h:LAt Z w F fb fd x key lvl .bad) :
  Calls Tryz.prog 79 #[.pointer (some ⟨x,0,none⟩)] w λ e w'=>e=.returned (hval none 0 0 0 cs0)/\Kept (λ_=>False) w w':=by
 cases h with
 | bad h hx=>exact lheld_no F fb fd key x _ 5 (by decide) _ _ _ _ w h
end Go.Proofs.YtlkgmnjceghpiaaGreat
namespace Go.Proofs.YtlkgmnjceghpiaaGreat
open Go.RowKit Go.Deep Plain
variable [Cf]
set_option linter.unusedVariables false
set_option linter.unusedSectionVars false

theorem nla_lo{F n:Nat}(h4:4<=F)(h6:F<=6)(h1:1<=n)(h2:n<=Cf.N):10<=nla F n/\nla F n+(F:Int)+4<=10+((Cf.N:Int)*(F:Int)+(Cf.N:Int)*4):=by
 rcases nla_lin h4 h6 h1 h2 with⟨e,a⟩|⟨e,a⟩|⟨e,a⟩<;>omega
theorem nad_ne{F n m r:Nat}(h4:4<=F)(h6:F<=6)(h3:1<=m)(h5:m<=Cf.N)(hr:r<F+3):nad F n r≠nla F m:=by
 by_cases h1:1<=n/\n<=Cf.N
 ·intro e
  rw[nad_eq h1.1 h1.2 hr] at e;rcases Nat.lt_trichotomy m n with h|h|h
  ·have:=nla_far h4 h6 h3 h h1.2;omega
  ·subst h;omega
  ·have:=nla_far h4 h6 h1.1 h h5;omega
 ·have hm:=(nla_lo h4 h6 h3 h5).1
  have hz:∀ p:Int,nodeAt Cf.N (F:Int) 10 (n:Int) p = -1:=λ p=>by unfold nodeAt;rw[if_neg (by omega)]
  have:nad F n r = -1:=by
   unfold nad adr;split
   ·exact hz _
   ·split
    ·exact hz _
    ·split
     ·exact hz _
     ·unfold slotAt;split
      ·exact hz _
      ·rfl
  omega
section
variable {F:Nat} {l0 l:List Cel} {h:Nat->Bool} {n:Nat} {P:Pg}
end

section
variable {F:Nat} {key:ByteArray} {lvl:Nat} {l0 l:List Cel} {h:Nat->Bool} {t:Nat} {P:Pg}
end

section
variable {F:Nat} {key:ByteArray} {lvl:Nat} {l0 l:List Cel} {t:Nat} {P:Pg}
end
def hpg(A:Option Addr)(c n wd:Nat)(P:Pg):Value:=.agg #[.int .u64 n,.int .u64 wd,.int .i64 P.lv,.slice A P.xs.length c,.string P.hi,.bool P.la,.int .u64 P.rt]
end Go.Proofs.YtlkgmnjceghpiaaGreat
