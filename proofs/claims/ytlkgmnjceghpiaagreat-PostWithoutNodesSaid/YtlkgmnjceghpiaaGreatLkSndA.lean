/-
 What counters,Chain and Refs of a view answer for a planted tree. Condition: the kit's small configurations.
-/
import Derived.Test.YtlkgmnjceghpiaaGreatLkRef
import Derived.Test.YtlkgmnjceghpiaaGreatLkAux
namespace Go.Proofs.YtlkgmnjceghpiaaGreat
open Go.RowKit Go.Deep Plain
set_option linter.unusedSectionVars false
set_option linter.unusedVariables false
open _root_.Go.Proofs.Tryz
open Go.Value (int)
set_option maxHeartbeats 8000000
set_option maxRecDepth 100000
variable [Cf]

theorem vcounters_any(F:Nat)(h4:4<=F)(h6:F<=6)(g n:Nat)(l:List Cel)(hl:l.length=n)(tot kk:Nat)(htot:cellAt l 4=((tot:Int),(⟨#[]⟩:ByteArray),(0:Int)))(h100:tot<=Cf.N)(hr:Rest F kk l)(hk100:kk<=Cf.C)(w:World)(hv:Blk w g 59 (flat3 l)) :
  Calls prog 49 #[.agg #[int .i64 1,int .i64 2,int .i64 Cf.N,int .i64 Cf.C,int .i64 Cf.R,int .i64 F,int .u64 Cf.K,.slice (some ⟨g,0,none⟩) n n]] w λ e w'=>e=.returned (.bool true)/\Kept (λ_=>False) w w':=by
 have w1:IntKind.u64.wrap (Cf.N:Int)=(Cf.N:Int):=by have:=Cf.n2;rw[IntKind.wrap_u64];omega
 have w3:IntKind.u64.wrap (Cf.C:Int)=(Cf.C:Int):=by have:=Cf.c2;rw[IntKind.wrap_u64];omega
 have w2:IntKind.u64.wrap (Cf.R:Int)=(Cf.R:Int):=by have:=Cf.r2;rw[IntKind.wrap_u64];omega
 have htI:¬ ((Cf.N:Nat):Int)<(tot:Int):=by omega
 have hkI:¬ ((Cf.C:Nat):Int)<(kk:Int):=by omega
 have f0:=field0 (0:Int) 0 ⟨#[]⟩;have f4:=field0 (tot:Int) 0 ⟨#[]⟩;have f5:=field0 (kk:Int) 0 ⟨#[]⟩;have HV0:=Hd hv;clear hv;go_enter func49,ntmps49;go_upto_region 1 with fail
 have hal:=(Kept.refl (λ_=>False) w).alloc (.cells #[int .i64 1,int .i64 2,int .i64 Cf.N,int .i64 Cf.C,int .i64 Cf.R,int .i64 F,int .u64 Cf.K,.slice (some ⟨g,0,none⟩) n n] 36);have HB:=Hd (Blk.new w [int .i64 1,int .i64 2,int .i64 Cf.N,int .i64 Cf.C,int .i64 Cf.R,int .i64 F,int .u64 Cf.K,.slice (some ⟨g,0,none⟩) n n] 36);have HV:=Hd (hal.blk HV0.o id);have HK:=Hd hal;clear hal;generalize w.alloc (.cells #[int .i64 1,int .i64 2,int .i64 Cf.N,int .i64 Cf.C,int .i64 Cf.R,int .i64 F,int .u64 Cf.K,.slice (some ⟨g,0,none⟩) n n] 36)=W at *;generalize hr0:w.heap.size=r0 at *;have HR0:=Hd hr0;clear hr0;refine qregion (λ w'=>Kept (λ_=>False) W w') (by kernel_rfl) (by kernel_rfl) (Kept.refl _ _).drew ?_;refine tkP 5 ?_ (by intro wq hSw;have y0:=(hSw.blk HB.o id).c8;exact qq1);refine qcall (o:=⟨some 6,_,_,_,_,_⟩) (v:=.agg #[int .u64 0,.string ⟨#[]⟩,int .u64 0]) (by rfl) (λ wq hSw=>?_) (λ wq hSw=>Calls.mono (vat_any F h4 h6 g n l hl 1 0 0 ⟨#[]⟩ _ (hSw.blk HV.o id) (hr.1 1 (by omega))) ?_) ?_
 ·(go_simp;try with_reducible rfl)
 ·rintro e w9 ⟨rfl,hk⟩;exact⟨rfl,hSw.trans hk kk2⟩
 try simp only[aP,aA,aZ,aS]
 refine tkP 7 ?_;refine tkP 8 ?_ (by intro wq hSw;have y0:=(hSw.blk HB.o id).c8;exact qq1);refine qcall (o:=⟨some 9,_,_,_,_,_⟩) (v:=.agg #[int .u64 0,.string ⟨#[]⟩,int .u64 0]) (by rfl) (λ wq hSw=>?_) (λ wq hSw=>Calls.mono (vat_any F h4 h6 g n l hl 2 0 0 ⟨#[]⟩ _ (hSw.blk HV.o id) (hr.1 2 (by omega))) ?_) ?_
 ·(go_simp;try with_reducible rfl)
 ·rintro e w9 ⟨rfl,hk⟩;exact⟨rfl,hSw.trans hk kk2⟩
 try simp only[aP,aA,aZ,aS]
 refine tkP 10 ?_;refine tkR 11 (.bool false) ?_;refine tkR 12 (.bool false) ?_;refine tkP 13 ?_ (by intro wq hSw;have y0:=(hSw.blk HB.o id).c8;exact qq1);refine qcall (o:=⟨some 14,_,_,_,_,_⟩) (v:=.agg #[int .u64 0,.string ⟨#[]⟩,int .u64 0]) (by rfl) (λ wq hSw=>?_) (λ wq hSw=>Calls.mono (vat_any F h4 h6 g n l hl 3 0 0 ⟨#[]⟩ _ (hSw.blk HV.o id) (hr.1 3 (by omega))) ?_) ?_
 ·(go_simp;try with_reducible rfl)
 ·rintro e w9 ⟨rfl,hk⟩;exact⟨rfl,hSw.trans hk kk2⟩
 try simp only[aP,aA,aZ,aS]
 refine tkP 15 ?_;refine tkP 16 ?_ (by intro wq hSw;have y0:=(hSw.blk HB.o id).c8;exact qq1);refine qcall (o:=⟨some 17,_,_,_,_,_⟩) (v:=.agg #[int .u64 0,.string ⟨#[]⟩,int .u64 0]) (by rfl) (λ wq hSw=>?_) (λ wq hSw=>Calls.mono (vat_any F h4 h6 g n l hl 2 0 0 ⟨#[]⟩ _ (hSw.blk HV.o id) (hr.1 2 (by omega))) ?_) ?_
 ·(go_simp;try with_reducible rfl)
 ·rintro e w9 ⟨rfl,hk⟩;exact⟨rfl,hSw.trans hk kk2⟩
 try simp only[aP,aA,aZ,aS]
 refine tkP 18 ?_;refine tkR 19 (.bool false) ?_;refine tkR 20 (.bool false) ?_;refine tkR 21 (.bool false) ?_;refine tkP 22 ?_ (by intro wq hSw;have y0:=(hSw.blk HB.o id).c8;exact qq1);refine qcall (o:=⟨some 23,_,_,_,_,_⟩) (v:=.agg #[int .u64 tot,.string ⟨#[]⟩,int .u64 0]) (by rfl) (λ wq hSw=>?_) (λ wq hSw=>Calls.mono (vat_any F h4 h6 g n l hl 4 (tot:Int) 0 ⟨#[]⟩ _ (hSw.blk HV.o id) htot) ?_) ?_
 ·(go_simp;try with_reducible rfl)
 ·rintro e w9 ⟨rfl,hk⟩;exact⟨rfl,hSw.trans hk kk2⟩
 try simp only[aP,aA,aZ,aS]
 refine tkP 24 ?_;refine tkP 25 ?_;refine tkP 26 ?_;refine tkP 27 ?_ (by intro wq hSw;have y0:=(hSw.blk HB.o id).c8;exact qq1);refine tkR 28 (int .u64 Cf.N) ?_;refine tkR 29 (.bool false) ?_;refine tkR 30 (.bool false) ?_;refine tkR 31 (.bool false) ?_;refine tkP 32 ?_ (by intro wq hSw;have y0:=(hSw.blk HB.o id).c8;exact qq1);refine qcall (o:=⟨some 33,_,_,_,_,_⟩) (v:=.agg #[int .u64 kk,.string ⟨#[]⟩,int .u64 0]) (by rfl) (λ wq hSw=>?_) (λ wq hSw=>Calls.mono (vat_any F h4 h6 g n l hl 5 (kk:Int) 0 ⟨#[]⟩ _ (hSw.blk HV.o id) hr.2) ?_) ?_
 ·(go_simp;try with_reducible rfl)
 ·rintro e w9 ⟨rfl,hk⟩;exact⟨rfl,hSw.trans hk kk2⟩
 try simp only[aP,aA,aZ,aS]
 refine tkP 34 ?_;refine tkP 35 ?_;refine tkP 36 ?_;refine tkP 37 ?_ (by intro wq hSw;have y0:=(hSw.blk HB.o id).c8;exact qq1);refine tkR 38 (int .u64 Cf.C) ?_;refine tkR 39 (.bool false) ?_;refine tkR 40 (.bool false) ?_;refine tkR 41 (.bool false) ?_;refine tkP 42 ?_ (by intro wq hSw;have y0:=(hSw.blk HB.o id).c8;exact qq1);refine qcall (o:=⟨some 43,_,_,_,_,_⟩) (v:=.agg #[int .u64 0,.string ⟨#[]⟩,int .u64 0]) (by rfl) (λ wq hSw=>?_) (λ wq hSw=>Calls.mono (vat_any F h4 h6 g n l hl 6 0 0 ⟨#[]⟩ _ (hSw.blk HV.o id) (hr.1 6 (by omega))) ?_) ?_
 ·(go_simp;try with_reducible rfl)
 ·rintro e w9 ⟨rfl,hk⟩;exact⟨rfl,hSw.trans hk kk2⟩
 try simp only[aP,aA,aZ,aS]
 refine tkP 44 ?_;refine tkP 45 ?_;refine tkP 46 ?_;refine tkP 47 ?_ (by intro wq hSw;have y0:=(hSw.blk HB.o id).c8;exact qq1);refine tkR 48 (int .u64 Cf.R) ?_;refine tkR 49 (.bool false) ?_;refine tkR 50 (.bool false) ?_;refine tkR 51 (.bool false) ?_;refine tkP 52 ?_ (by intro wq hSw;have y0:=(hSw.blk HB.o id).c8;exact qq1);refine qcall (o:=⟨some 53,_,_,_,_,_⟩) (v:=.agg #[int .u64 0,.string ⟨#[]⟩,int .u64 0]) (by rfl) (λ wq hSw=>?_) (λ wq hSw=>Calls.mono (vat_any F h4 h6 g n l hl 7 0 0 ⟨#[]⟩ _ (hSw.blk HV.o id) (hr.1 7 (by omega))) ?_) ?_
 ·(go_simp;try with_reducible rfl)
 ·rintro e w9 ⟨rfl,hk⟩;exact⟨rfl,hSw.trans hk kk2⟩
 try simp only[aP,aA,aZ,aS]
 refine tkP 54 ?_;refine tkR 55 (int .u64 0) ?_;refine tkR 56 (.bool false) ?_;refine tkR 57 (.bool false) ?_;refine wpQuiet_nil ?_;intro wz hH;have HB1:=Hd (hH.blk HB.o id);have HV1:=Hd (hH.blk HV.o id);have HK1:=Hd (HK.o.trans hH kk2);clear hH HB HV HK;rename World=>V1;go_wp2_with fail;go_loopw [3] (λ iv wr=>∃ i:Nat,8<=i/\i<=10/\iv=int .i64 i/\Kept (λ_=>False) V1 wr) (λ iv _=>10-(intOf iv).toNat)
 case atStart=>exact⟨8,by omega,by omega,rfl,Kept.refl _ _⟩
 case round =>
  obtain⟨i,hi1,hi2,rfl,hKr⟩:=hrel;have HBr:=Hd (hKr.blk HB1.o id);have HVr:=Hd (hKr.blk HV1.o id);have HKr:=Hd (HK1.o.trans hKr kk2);have HK0:=Hd hKr;clear hKr;obtain⟨x0,x1,x2,x3,x4,x5,x6,x7⟩:=(HBr.o).c8;have HA:=Hd (show Calls prog 100 #[.agg #[int .i64 1,int .i64 2,int .i64 Cf.N,int .i64 Cf.C,int .i64 Cf.R,int .i64 F,int .u64 Cf.K]] wr λ e w'=>e=.returned (int .i64 10)/\Kept (λ_=>False) wr w' from refA_any 1 2 Cf.N Cf.C Cf.R (F:Int) Cf.K (limF h4 h6) wr)
  by_cases hlt:i<10
  ·have hltI:(i:Int)<10:=by omega
   go_wp2_with fail;refine HA.o.mono ?_;rintro e w2 ⟨rfl,hK2⟩;have HB2:=Hd (hK2.blk HBr.o id);have HV2:=Hd (hK2.blk HVr.o id);have HK2:=Hd (HK0.o.trans hK2 kk2);clear hK2 x0 x1 x2 x3 x4 x5 x6 x7 HA;obtain⟨x0,x1,x2,x3,x4,x5,x6,x7⟩:=(HB2.o).c8;go_wp2_with fail;refine(vat_any F h4 h6 g n l hl (i:Int) 0 0 ⟨#[]⟩ _ HV2.o (hr.1 (i:Int) (by omega))).mono ?_;rintro e w3 ⟨rfl,hK3⟩;have HK3:=Hd (HK2.o.trans hK3 kk2);clear hK3 x0 x1 x2 x3 x4 x5 x6 x7;go_wp2;go_roundw
   case rel=>exact⟨i+1,by omega,by omega,by go_num,HK3.o⟩
   case measure=>simp[intOf];omega
  ·have hltI:¬ (i:Int)<10:=by omega
   go_wp2_with fail;refine HA.o.mono ?_;rintro e w2 ⟨rfl,hK2⟩;have HK2:=Hd (HKr.o.trans hK2 kk2);clear hK2;go_wp2;go_ret;refine⟨rfl,?_⟩;have:=HK2.o;exact this

theorem vchain_zero(F:Nat)(h4:4<=F)(h6:F<=6)(g n:Nat)(l:List Cel)(hl:l.length=n)(kk c:Nat)(hr:Rest F kk l)(hc1:1<=c)(hc2:c<=Cf.C)(w:World)(hv:Blk w g 59 (flat3 l)) :
  Calls prog 102 #[.agg #[int .i64 1,int .i64 2,int .i64 Cf.N,int .i64 Cf.C,int .i64 Cf.R,int .i64 F,int .u64 Cf.K,.slice (some ⟨g,0,none⟩) n n],int .u64 c] w λ e w'=>e=.returned (.slice none 0 0)/\Kept (λ_=>False) w w':=by
 obtain⟨a,ha⟩:∃ a,chainAt Cf.C (firstChain 1 2 Cf.N (F:Int)) (c:Int)=a:=⟨_,rfl⟩;have HCH:=Hd (show ∀ W,Calls prog 101 #[.agg #[int .i64 1,int .i64 2,int .i64 Cf.N,int .i64 Cf.C,int .i64 Cf.R,int .i64 F,int .u64 Cf.K],int .u64 c] W λ e w'=>e=.returned (int .i64 a)/\Kept (λ_=>False) W w' from λ W=>by
  have h:=refChain_any 1 2 Cf.N Cf.C Cf.R (F:Int) Cf.K (c:Int) (limF h4 h6) (by omega) W;rw[ha] at h;exact h)
 have HRC:=Hd (show ∀ W,Calls prog 146 #[.agg #[int .i64 1,int .i64 2,int .i64 Cf.N,int .i64 Cf.C,int .i64 Cf.R,int .i64 F,int .u64 Cf.K],int .u64 0,int .i64 0] W λ e w'=>e=.returned (int .i64 (-1))/\Kept (λ_=>False) W w' from λ W =>
  refRec_any 1 2 Cf.N Cf.C Cf.R (F:Int) Cf.K 0 0 (limF h4 h6) (by omega) (by omega) (by omega) W)
 have hRI:(0:Int)<(Cf.R:Int):=by have:=Cf.r1;omega
 have HCA:=Hd (show cellAt l a=((0:Int),(⟨#[]⟩:ByteArray),(0:Int)) from hr.1 a (.inr (.inr (by
  rw[←ha];unfold chainAt firstChain firstNode;rw[if_pos (by omega)];omega))))
 clear ha;have f0:=field0 (0:Int) 0 ⟨#[]⟩;have HV0:=Hd hv;clear hv;go_enter func102,ntmps102;go_upto_region 2 with fail
 have hal:=(Kept.refl (λ_=>False) w).alloc (.cells #[int .i64 1,int .i64 2,int .i64 Cf.N,int .i64 Cf.C,int .i64 Cf.R,int .i64 F,int .u64 Cf.K,.slice (some ⟨g,0,none⟩) n n] 36);have HB:=Hd (Blk.new w [int .i64 1,int .i64 2,int .i64 Cf.N,int .i64 Cf.C,int .i64 Cf.R,int .i64 F,int .u64 Cf.K,.slice (some ⟨g,0,none⟩) n n] 36);have HV:=Hd (hal.blk HV0.o id);have HK:=Hd hal;clear hal;generalize w.alloc (.cells #[int .i64 1,int .i64 2,int .i64 Cf.N,int .i64 Cf.C,int .i64 Cf.R,int .i64 F,int .u64 Cf.K,.slice (some ⟨g,0,none⟩) n n] 36)=W at *;generalize hr0:w.heap.size=r0 at *;have HR0:=Hd hr0;clear hr0;refine qregion (λ w'=>Kept (λ_=>False) W w') (by kernel_rfl) (by kernel_rfl) (Kept.refl _ _).drew ?_;refine tkP 9 ?_ (by intro wq hSw;have y0:=(hSw.blk HB.o id).c8;exact qq1);refine tkP 10 ?_;refine tkP 11 ?_ (by intro wq hSw;have y0:=(hSw.blk HB.o id).c8;exact qq1);refine tkP 12 ?_;refine qcall (o:=⟨some 13,_,_,_,_,_⟩) (v:=int .i64 a) (by rfl) (λ wq hSw=>?_) (λ wq hSw=>Calls.mono (HCH.o _) ?_) ?_
 ·(go_simp;try with_reducible rfl)
 ·rintro e w9 ⟨rfl,hk⟩;exact⟨rfl,hSw.trans hk kk2⟩
 try simp only[aP,aA,aZ,aS]
 refine qcall (o:=⟨some 14,_,_,_,_,_⟩) (v:=.agg #[int .u64 0,.string ⟨#[]⟩,int .u64 0]) (by rfl) (λ wq hSw=>?_) (λ wq hSw=>Calls.mono (vat_any F h4 h6 g n l hl a 0 0 ⟨#[]⟩ _ (hSw.blk HV.o id) HCA.o) ?_) ?_
 ·(go_simp;try with_reducible rfl)
 ·rintro e w9 ⟨rfl,hk⟩;exact⟨rfl,hSw.trans hk kk2⟩
 try simp only[aP,aA,aZ,aS]
 refine tkP 15 ?_;refine tkP 6 ?_;refine wpQuiet_nil ?_;intro wz hH;have HB1:=Hd (hH.blk HB.o id);have HK1:=Hd (HK.o.trans hH kk2);clear hH HB HV HK;rename World=>V1;go_wp2_with fail;go_loopw [5,6,7] (λ ov rv kv wr=>ov=.slice none 0 0/\rv=int .u64 0/\kv=int .i64 0/\Kept (λ_=>False) V1 wr) (λ_ _ _ _=>0)
 case atStart=>exact⟨rfl,rfl,rfl,Kept.refl _ _⟩
 case round =>
  obtain⟨rfl,rfl,rfl,hKr⟩:=hrel;have hb9:=hKr.blk HB1.o id;obtain⟨x0,x1,x2,x3,x4,x5,x6,x7⟩:=hb9.c8;have HKr:=Hd (HK1.o.trans hKr kk2);clear hb9 hKr;go_wp2_with fail;refine(HRC.o _).mono ?_;rintro e w2 ⟨rfl,hK2⟩;have HK2:=Hd (HKr.o.trans hK2 kk2);clear hK2;go_wp2;go_ret;refine⟨rfl,?_⟩;have:=HK2.o;exact this

theorem refCheck9_nil(w:World) :
  Calls prog 103 #[.slice none 0 0] w λ e w'=>e=.returned (.bool true)/\w=w':=by
 go_enter func103,ntmps103;go_wp2_with fail;go_loopw [3] (λ iv wr=>iv=int .i64 0/\wr=w) (λ_ _=>0)
 case atStart=>exact⟨rfl,rfl⟩
 case round =>
  obtain⟨rfl,rfl⟩:=hrel;go_wp2;go_ret;exact⟨rfl,rfl⟩

theorem wds_snoc(ps:List Nat)(p:Nat):wds (ps++[p])=wds ps++[int .u64 p]:=by unfold wds;rw[List.map_append];rfl
end Go.Proofs.YtlkgmnjceghpiaaGreat
