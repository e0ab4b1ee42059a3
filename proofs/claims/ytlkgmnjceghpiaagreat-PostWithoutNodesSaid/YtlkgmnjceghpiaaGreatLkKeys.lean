/-
 What package keys,the kit's Keys and its references answer. Condition: keys within the model's reach.
-/
import Derived.Test.YtlkgmnjceghpiaaGreatRows
import Derived.Test.YtlkgmnjceghpiaaGreatLkPlain
import Derived.WalkSpells
import Derived.WalkLawsBesides
import Derived.Lib.Strings
namespace Go.Proofs.YtlkgmnjceghpiaaGreat
set_option maxHeartbeats 8000000
set_option maxRecDepth 100000
section
open Go.RowKit Go.Deep Plain
set_option linter.unusedVariables false

theorem len_toList(a:ByteArray):a.toList.length=a.size:=by rw[Lib.toList_data, ←Lib.size_eq]

theorem getD_toList(a:ByteArray)(k:Nat)(h:k<a.size):a.toList.getD k 0=a[k]:=by
 rw[Lib.toList_data,List.getD_eq_getElem?_getD,List.getElem?_eq_getElem (by rw[←Lib.size_eq];exact h)];simp only[Option.getD_some,Array.getElem_toList]
 rfl

theorem take_toList(b:ByteArray)(k:Nat):(b.extract 0 k).toList=b.toList.take k:=by
 rw[Lib.extract_toList,Lib.toList_data];simp

def sepB(a b:ByteArray):ByteArray:=if ltB a.toList b.toList then b.extract 0 (com a.toList b.toList+1) else ByteArray.empty

theorem sepB_toList(a b:ByteArray):(sepB a b).toList=sep a.toList b.toList:=by
 unfold sepB sep;split
 ·exact take_toList _ _
 ·rw[Lib.toList_data];rfl

theorem within_any(key low high:ByteArray)(last:Bool)(w:World) :
  Calls Tryz.prog 109 #[.string key,.string low,.string high,.bool last] w λ e w'=>e=.returned (.bool (!ltB key.toList low.toList&&(last||ltB key.toList high.toList)))/\w=w':=by
 rw[←bytesLess_ltB, ←bytesLess_ltB];cases last<;>cases h:Op.bytesLess key.toList low.toList
 all_goals
  go_enter Tryz.func109,Tryz.ntmps109;go_wp2;go_ret;exact⟨by simp,rfl⟩

theorem gt_ltB(x y:List UInt8):(!(Op.bytesLess x y||x==y))=ltB y x:=by
 rw[bytesLess_ltB];cases h:ltB x y
 ·cases k:ltB y x
  ·rw[ltB_tri x y h k];simp
  ·have:¬ x=y:=λ e=>by rw[e,ltB_self] at k;exact absurd k (by decide)
   simpa using this
 ·rw[ltB_asymm x y h];simp

theorem refSep_any(a b:ByteArray)(w:World)(hb:b.size<=4611686018427387904) :
  Calls Tryz.prog 68 #[.string a,.string b] w λ e w'=>e=.returned (.string (sepB a b))/\w=w':=by
 have hc:=com_lt a.toList b.toList;rw[len_toList] at hc;unfold sepB;cases h:ltB a.toList b.toList
 ·have HT:Hid (∀ k,(!(Op.bytesLess (b.extract 0 k).toList a.toList||(b.extract 0 k).toList==a.toList))=false):=Hd λ k=>by rw[gt_ltB,take_toList];exact ge_take _ _ k h
  clear hc h;go_enter Tryz.func68,Tryz.ntmps68;go_wp2;go_loop [5] (λ i=>∃ k:Nat,k<=b.size+1/\i=.int .i64 k) (λ i=>b.size+1-(intOf i).toNat)
  case atStart=>exact⟨0,by omega,rfl⟩
  case round =>
   obtain⟨k,hk,rfl⟩:=hrel
   by_cases hlt:k<=b.size
   ·have ht:=HT.o k
    go_wp2;go_round
    case rel=>exact⟨k+1,by omega,by go_num⟩
    case measure=>simp[intOf];omega
   ·go_wp2
    go_ret;exact⟨rfl,rfl⟩
 ·have hlt:=hc h
  have HT:Hid (∀ k,k<=com a.toList b.toList->(!(Op.bytesLess (b.extract 0 k).toList a.toList||(b.extract 0 k).toList==a.toList))=false):=Hd λ k hk=>by rw[gt_ltB,take_toList];exact sep_short _ _ k hk
  have HL:Hid ((!(Op.bytesLess (b.extract 0 (com a.toList b.toList+1)).toList a.toList||(b.extract 0 (com a.toList b.toList+1)).toList==a.toList))=true):=Hd (by rw[gt_ltB,take_toList];exact sep_lt _ _ h);clear hc h;go_enter Tryz.func68,Tryz.ntmps68;go_wp2;go_loop [5] (λ i=>∃ k:Nat,k<=com a.toList b.toList+1/\i=.int .i64 k) (λ i=>b.size+1-(intOf i).toNat)
  case atStart=>exact⟨0,by omega,rfl⟩
  case round =>
   obtain⟨k,hk,rfl⟩:=hrel
   by_cases hs:k<=com a.toList b.toList
   ·have ht:=HT.o k hs
    go_wp2;go_round
    case rel=>exact⟨k+1,by omega,by go_num⟩
    case measure=>simp[intOf];omega
   ·obtain rfl:k=com a.toList b.toList+1:=by omega
    have ht:=HL.o;go_wp2;go_ret;exact⟨rfl,rfl⟩

end

section
open Go.RowKit Plain PlainE

def Rdv(w:World)(B:Nat)(v:Value)(n:Nat)(xs:List Value):Prop :=
 ∃ A c,v=.slice A n c/\n<=c/\c<=maxLen/\(0<n->∃ g off,A=some ⟨g,off,none⟩/\g<B/\∀ j u,xs[j]? = some u->w.cell? ⟨g,off+j,none⟩=some u)
theorem rdv_own{w:World}{base e size n:Nat}{v:Value}{xs:List Value}(h:w.ownsRow base e size v n xs):Rdv w w.heap.size v n xs:=by
 rcases h.2 with⟨rfl,rfl⟩|⟨g,cap,cur,rfl,hb,hg,hc,hm,rest⟩
 ·exact⟨none,0,rfl,Nat.le_refl _,Nat.zero_le _,λ h=>absurd h (by omega)⟩
 ·refine⟨_,cap,rfl,hc,hm,λ_=>⟨g,0,rfl,(Array.getElem?_eq_some_iff.1 hg).1,λ j u hu=>?_⟩⟩
  have:=h.cells (g:=g) rfl j u hu;rw[Addr.add_lit] at this;exact this

theorem Tryz.info118: (Tryz.prog.info? 118).map (λ i=>(i.zero,i.size,i.bytes))=some (some (.agg #[.string ByteArray.empty,.string ByteArray.empty]),2,32):=by kernel_rfl

theorem own_drewNE{w:World}{base e size n:Nat}{v:Value}{xs:List Value}(h:w.ownsRow base e size v n xs)(q:Nat):(w.drewN q).ownsRow base e size v n xs:=h
theorem own_lessE{w:World}{base base' e size n:Nat}{v:Value}{xs:List Value}(h:w.ownsRow base e size v n xs)(hb:base'<=base):w.ownsRow base' e size v n xs:=by
 refine⟨h.1,?_⟩;rcases h.2 with hn|⟨g,cap,cur,rfl,hg,rest⟩
 ·exact .inl hn
 ·exact .inr ⟨g,cap,cur,rfl,Nat.le_trans hb hg,rest⟩
theorem cells_twoE(W:World)(E:TypeId)(a b:Value){cs:Array Value}(hcs:cs = #[a,b]):∀ j u,[a,b][j]? = some u->(W.alloc (.cells cs E)).cell? ((⟨W.heap.size,0,none⟩:Addr).add j)=some u:=by
 subst hcs;intro j u hu
 match j,hu with
 | 0,hu=>simp at hu;subst hu;simp[Addr.add]
 | 1,hu=>simp at hu;subst hu;simp[Addr.add]
theorem after_appE{B e size n:Nat}{W wr w1:World}{v:Value}{xs:List Value}{o:Obj}{q:Nat}(hb:Below B W wr)(ho:wr.ownsRow B e size v n xs)(hB:B<=wr.heap.size)
  (hg:((wr.drewN q).alloc o).grownBy w1 v.ownBlock):(Below B W w1/\wr.heap.size<=w1.heap.size)/\∀ p:Addr,p.block<B->w1.cell? p=wr.cell? p:=by
 have hrow:∀ k,v.ownBlock=some k->B<=k:=λ k hk=>(ho.lt k hk).1;have h1:Below B wr w1:=((below_drewN (Below.refl B wr) q).alloc hB o).grown hg (by simp;omega) hrow;exact⟨⟨hb.trans h1,h1.size⟩,λ p hp=>h1.cell hp⟩

theorem put_any(A:Option Addr)(n c:Nat)(xs:List Ent)(k v:ByteArray)(w:World)(hn:xs.length=n)(hn40:n<=1099511627776)
  (hR:Rdv w w.heap.size (.slice A n c) n (PlainE.flat xs)) :
  Calls Tryz.prog 69 #[.slice A n c,.agg #[.string k,.string v]] w λ e w' =>
   ∃ v',e=.returned v'/\w'.ownsRow w.heap.size 118 2 v' (putL xs (k,v)).length (PlainE.flat (putL xs (k,v)))/\Below w.heap.size w w':=by
 obtain⟨i0,hi,hz0,hz1,hz2⟩:=info_parts Tryz.info118;go_enter Tryz.func69,Tryz.ntmps69;go_wp2;go_loopw [5,6,7] (λ o d i wr=>∃ j:Nat,j<=n/\i=.int .i64 j/\d=.bool (run (k,v) (xs.take j)).2/\wr.ownsRow (w.heap.size+1) 118 2 o (run (k,v) (xs.take j)).1.length (PlainE.flat (run (k,v) (xs.take j)).1)/\Below (w.heap.size+1) (w.alloc (.cells #[.string k,.string v] 118)) wr)
  (λ_ _ i _=>n-(intOf i).toNat)
 case atStart=>exact⟨0,by omega,rfl,rfl,World.ownsRow_nil _ _ _ _,Below.refl _ _⟩
 case round =>
  obtain⟨j,hj,rfl,rfl,hown,hbel⟩:=hrel;have hzr:w.heap.size+1<=wr.heap.size:=by have:=hbel.size;simp at this;omega
  by_cases hlt:j<n
  ·obtain⟨A',c',he,hc,hcm,hA⟩:=hR
   obtain⟨rfl,rfl⟩:A=A'/\c=c':=by simpa using he
   obtain⟨g,off,rfl,hg,hcell⟩:=hA (by omega);obtain⟨x,hx⟩:∃ x,x=xs[j]:=⟨_,rfl⟩;have hst:=run_take (k,v) xs j (by omega);rw[←hx] at hst;have hfa:=flat_at xs j (by omega);rw[←hx] at hfa;have hx1:wr.cell? ⟨g,off+j*2,none⟩=some (.string x.1):=by
    rw[hbel.cell (p:=⟨g,_,none⟩) (by show g<_;omega),World.cell?_alloc_lt w _ _ hg];exact hcell _ _ hfa.1
   have hx2:wr.cell? ⟨g,off+j*2+1,none⟩=some (.string x.2):=by
    rw[hbel.cell (p:=⟨g,_,none⟩) (by show g<_;omega),World.cell?_alloc_lt w _ _ hg];exact hcell _ _ hfa.2
   have hk1:wr.cell? ⟨w.heap.size,0,none⟩=some (.string k):=by
    rw[hbel.cell (p:=⟨w.heap.size,_,none⟩) (by show w.heap.size<_;omega)];simp
   have hk2:wr.cell? ⟨w.heap.size,1,none⟩=some (.string v):=by
    rw[hbel.cell (p:=⟨w.heap.size,_,none⟩) (by show w.heap.size<_;omega)];simp
   generalize hrun:run (k,v) (xs.take j)=st at hst hown ⊢;obtain⟨l,d⟩:=st;have hll:=run_len' (k,v) xs j (by omega);rw[hrun] at hll;have HST:=Hd hst;clear hst hrun hfa hcell hx;simp only at hll;cases hlt2:ltB x.1.toList k.toList<;>cases hne2:x.1.toList==k.toList
   all_goals have hge:Op.bytesLess x.1.toList k.toList=_:=(bytesLess_ltB _ _).trans hlt2
   all_goals have hneq:=hne2
   all_goals cases d
   ·skip
    have hs:Hid (run (k,v) (xs.take (j+1))=(l++[(k,v)]++[x],true)):=Hd (by rw[HST.o];simp[stp,geE,neE,hlt2,hne2]);clear HST hlt2 hne2;go_wp2_with fail;go_quiet (fail);go_wp2_with (at_builtin;go_must (refine wpList_append_own _ rfl (.tmp 26) (.tmp 28) 115 rfl (w.heap.size+1) 118 i0 _ 2 32 Tryz.underlying115 hi hz0 hz1 hz2 rfl (by decide) _ _ _ rfl (hown.alloc _) ⟨wr.heap.size,0,none⟩ 1 1 [.string k,.string v] rfl rfl ?a1 ?b1 ?c1 ?d1 ?e1 ?_))
    try case a1=>exact cells_twoE _ _ _ _ rfl
    case b1=>first|exact⟨rfl,rfl⟩|(intro u hu;simp at hu;rcases hu with rfl|rfl<;>rfl)
    case c1=>unfold maxLen;omega
    case d1=>omega
    case e1=>first|omega|(simp;omega)
    intro v1 w1 hown1 hgr1 _;obtain⟨hbel1,hkeep1⟩:=after_appE hbel hown (by omega) hgr1;have hz1':w.heap.size+1<=w1.heap.size:=Nat.le_trans hzr hbel1.2;have hbel1:=hbel1.1;have hx1':=(hkeep1 ⟨g,off+j*2,none⟩ (by show g<_;omega)).trans hx1;have hx2':=(hkeep1 ⟨g,off+j*2+1,none⟩ (by show g<_;omega)).trans hx2;have hk1':=(hkeep1 ⟨w.heap.size,0,none⟩ (by show w.heap.size<_;omega)).trans hk1;have hk2':=(hkeep1 ⟨w.heap.size,1,none⟩ (by show w.heap.size<_;omega)).trans hk2;clear hx1 hx2 hk1 hk2 hkeep1 hgr1 hbel hown;go_wp2_with fail;go_quiet (fail);go_wp2_with (at_builtin;go_must (refine wpList_append_own _ rfl (.tmp 38) (.tmp 43) 115 rfl (w.heap.size+1) 118 i0 _ 2 32 Tryz.underlying115 hi hz0 hz1 hz2 rfl (by decide) _ _ _ rfl (hown1.alloc _) ⟨w1.heap.size,0,none⟩ 1 1 [.string x.1,.string x.2] rfl rfl ?a2 ?b2 ?c2 ?d2 ?e2 ?_))
    try case a2=>exact cells_twoE _ _ _ _ rfl
    case b2=>first|exact⟨rfl,rfl⟩|(intro u hu;simp at hu;rcases hu with rfl|rfl<;>rfl)
    case c2=>unfold maxLen;omega
    case d2=>omega
    case e2=>first|omega|(simp;omega)
    intro v2 w2 hown2 hgr2 _;obtain⟨hbel2,_⟩:=after_appE hbel1 hown1 (by omega) hgr2;have hbel2:=hbel2.1;clear hgr2;go_wp2;go_roundw
    case rel=>exact⟨j+1,by omega,by go_num,by rw[hs.out],by rw[hs.out];simpa [PlainE.flat_append,PlainE.flat,Nat.add_assoc] using hown2,hbel2⟩
    case measure=>simp[intOf];omega
   ·skip
    have hs:Hid (run (k,v) (xs.take (j+1))=(l++[x],true)):=Hd (by rw[HST.o];simp[stp,geE,neE,hlt2,hne2]);clear HST hlt2 hne2;go_wp2_with fail;go_quiet (fail);go_wp2_with fail;go_quiet (fail);go_wp2_with (at_builtin;go_must (refine wpList_append_own _ rfl (.tmp 38) (.tmp 43) 115 rfl (w.heap.size+1) 118 i0 _ 2 32 Tryz.underlying115 hi hz0 hz1 hz2 rfl (by decide) _ _ _ rfl (hown.alloc _) ⟨wr.heap.size,0,none⟩ 1 1 [.string x.1,.string x.2] rfl rfl ?a3 ?b3 ?c3 ?d3 ?e3 ?_))
    try case a3=>exact cells_twoE _ _ _ _ rfl
    case b3=>first|exact⟨rfl,rfl⟩|(intro u hu;simp at hu;rcases hu with rfl|rfl<;>rfl)
    case c3=>unfold maxLen;omega
    case d3=>omega
    case e3=>first|omega|(simp;omega)
    intro v2 w2 hown2 hgr2 _;obtain⟨hbel2,_⟩:=after_appE hbel hown (by omega) hgr2;have hbel2:=hbel2.1;clear hgr2;go_wp2;go_roundw
    case rel=>exact⟨j+1,by omega,by go_num,by rw[hs.out],by rw[hs.out];simpa [PlainE.flat_append,PlainE.flat,Nat.add_assoc] using hown2,hbel2⟩
    case measure=>simp[intOf];omega
   ·skip
    have hs:Hid (run (k,v) (xs.take (j+1))=(l++[(k,v)],true)):=Hd (by rw[HST.o];simp[stp,geE,neE,hlt2,hne2]);clear HST hlt2 hne2;go_wp2_with fail;go_quiet (fail);go_wp2_with (at_builtin;go_must (refine wpList_append_own _ rfl (.tmp 26) (.tmp 28) 115 rfl (w.heap.size+1) 118 i0 _ 2 32 Tryz.underlying115 hi hz0 hz1 hz2 rfl (by decide) _ _ _ rfl (hown.alloc _) ⟨wr.heap.size,0,none⟩ 1 1 [.string k,.string v] rfl rfl ?a4 ?b4 ?c4 ?d4 ?e4 ?_))
    try case a4=>exact cells_twoE _ _ _ _ rfl
    case b4=>first|exact⟨rfl,rfl⟩|(intro u hu;simp at hu;rcases hu with rfl|rfl<;>rfl)
    case c4=>unfold maxLen;omega
    case d4=>omega
    case e4=>first|omega|(simp;omega)
    intro v1 w1 hown1 hgr1 _;obtain⟨hbel1,hkeep1⟩:=after_appE hbel hown (by omega) hgr1;have hz1':w.heap.size+1<=w1.heap.size:=Nat.le_trans hzr hbel1.2;have hbel1:=hbel1.1;have hx1':=(hkeep1 ⟨g,off+j*2,none⟩ (by show g<_;omega)).trans hx1;have hx2':=(hkeep1 ⟨g,off+j*2+1,none⟩ (by show g<_;omega)).trans hx2;have hk1':=(hkeep1 ⟨w.heap.size,0,none⟩ (by show w.heap.size<_;omega)).trans hk1;have hk2':=(hkeep1 ⟨w.heap.size,1,none⟩ (by show w.heap.size<_;omega)).trans hk2;clear hx1 hx2 hk1 hk2 hkeep1 hgr1 hbel hown;go_wp2_with fail;go_quiet (fail);go_wp2;go_roundw
    case rel=>exact⟨j+1,by omega,by go_num,by rw[hs.out],by rw[hs.out];simpa [PlainE.flat_append,PlainE.flat] using own_drewNE hown1 _,below_drewN hbel1 _⟩
    case measure=>simp[intOf];omega
   ·skip
    have hs:Hid (run (k,v) (xs.take (j+1))=(l,true)):=Hd (by rw[HST.o];simp[stp,geE,neE,hlt2,hne2]);clear HST hlt2 hne2;go_wp2_with fail;go_quiet (fail);go_wp2_with fail;go_quiet (fail);go_wp2;go_roundw
    case rel=>exact⟨j+1,by omega,by go_num,by rw[hs.out],by rw[hs.out];exact own_drewNE hown _,below_drewN hbel _⟩
    case measure=>simp[intOf];omega
   ·skip
    have hs:Hid (run (k,v) (xs.take (j+1))=(l++[x],false)):=Hd (by rw[HST.o];simp[stp,geE,neE,hlt2,hne2]);clear HST hlt2 hne2;go_wp2_with fail;go_quiet (fail);go_wp2_with fail;go_quiet (fail);go_wp2_with (at_builtin;go_must (refine wpList_append_own _ rfl (.tmp 38) (.tmp 43) 115 rfl (w.heap.size+1) 118 i0 _ 2 32 Tryz.underlying115 hi hz0 hz1 hz2 rfl (by decide) _ _ _ rfl (hown.alloc _) ⟨wr.heap.size,0,none⟩ 1 1 [.string x.1,.string x.2] rfl rfl ?a5 ?b5 ?c5 ?d5 ?e5 ?_))
    try case a5=>exact cells_twoE _ _ _ _ rfl
    case b5=>first|exact⟨rfl,rfl⟩|(intro u hu;simp at hu;rcases hu with rfl|rfl<;>rfl)
    case c5=>unfold maxLen;omega
    case d5=>omega
    case e5=>first|omega|(simp;omega)
    intro v2 w2 hown2 hgr2 _;obtain⟨hbel2,_⟩:=after_appE hbel hown (by omega) hgr2;have hbel2:=hbel2.1;clear hgr2;go_wp2;go_roundw
    case rel=>exact⟨j+1,by omega,by go_num,by rw[hs.out],by rw[hs.out];simpa [PlainE.flat_append,PlainE.flat,Nat.add_assoc] using hown2,hbel2⟩
    case measure=>simp[intOf];omega
   ·skip
    have hs:Hid (run (k,v) (xs.take (j+1))=(l++[x],true)):=Hd (by rw[HST.o];simp[stp,geE,neE,hlt2,hne2]);clear HST hlt2 hne2;go_wp2_with fail;go_quiet (fail);go_wp2_with fail;go_quiet (fail);go_wp2_with (at_builtin;go_must (refine wpList_append_own _ rfl (.tmp 38) (.tmp 43) 115 rfl (w.heap.size+1) 118 i0 _ 2 32 Tryz.underlying115 hi hz0 hz1 hz2 rfl (by decide) _ _ _ rfl (hown.alloc _) ⟨wr.heap.size,0,none⟩ 1 1 [.string x.1,.string x.2] rfl rfl ?a6 ?b6 ?c6 ?d6 ?e6 ?_))
    try case a6=>exact cells_twoE _ _ _ _ rfl
    case b6=>first|exact⟨rfl,rfl⟩|(intro u hu;simp at hu;rcases hu with rfl|rfl<;>rfl)
    case c6=>unfold maxLen;omega
    case d6=>omega
    case e6=>first|omega|(simp;omega)
    intro v2 w2 hown2 hgr2 _;obtain⟨hbel2,_⟩:=after_appE hbel hown (by omega) hgr2;have hbel2:=hbel2.1;clear hgr2;go_wp2;go_roundw
    case rel=>exact⟨j+1,by omega,by go_num,by rw[hs.out],by rw[hs.out];simpa [PlainE.flat_append,PlainE.flat,Nat.add_assoc] using hown2,hbel2⟩
    case measure=>simp[intOf];omega
   ·skip
    have hs:Hid (run (k,v) (xs.take (j+1))=(l,false)):=Hd (by rw[HST.o];simp[stp,geE,neE,hlt2,hne2]);clear HST hlt2 hne2;go_wp2_with fail;go_quiet (fail);go_wp2_with fail;go_quiet (fail);go_wp2;go_roundw
    case rel=>exact⟨j+1,by omega,by go_num,by rw[hs.out],by rw[hs.out];exact own_drewNE hown _,below_drewN hbel _⟩
    case measure=>simp[intOf];omega
   ·skip
    have hs:Hid (run (k,v) (xs.take (j+1))=(l,true)):=Hd (by rw[HST.o];simp[stp,geE,neE,hlt2,hne2]);clear HST hlt2 hne2;go_wp2_with fail;go_quiet (fail);go_wp2_with fail;go_quiet (fail);go_wp2;go_roundw
    case rel=>exact⟨j+1,by omega,by go_num,by rw[hs.out],by rw[hs.out];exact own_drewNE hown _,below_drewN hbel _⟩
    case measure=>simp[intOf];omega
  ·obtain rfl:j=n:=by omega
   have hfull:xs.take j=xs:=by rw[List.take_of_length_le (by omega)]
   rw[hfull] at hown;have hll:=run_len' (k,v) xs xs.length (Nat.le_refl _);rw[List.take_length] at hll;have hk1:wr.cell? ⟨w.heap.size,0,none⟩=some (.string k):=by
    rw[hbel.cell (p:=⟨w.heap.size,_,none⟩) (by show w.heap.size<_;omega)];simp
   have hk2:wr.cell? ⟨w.heap.size,1,none⟩=some (.string v):=by
    rw[hbel.cell (p:=⟨w.heap.size,_,none⟩) (by show w.heap.size<_;omega)];simp
   have hw0:Below w.heap.size w wr:=((Below.refl _ w).alloc (Nat.le_refl _) _).trans (hbel.mono (by omega));have hput:putL xs (k,v)=if (run (k,v) xs).2=true then (run (k,v) xs).1 else (run (k,v) xs).1++[(k,v)]:=rfl
   rw[hfull];clear hfull;generalize run (k,v) xs=st at hown hll hput ⊢;obtain⟨l,d⟩:=st;simp only at hown hll;have HP:=Hd hput;clear hput;cases d
   ·skip
    go_wp2_with (at_builtin;go_must (refine wpList_append_own _ rfl (.tmp 47) (.tmp 49) 115 rfl (w.heap.size+1) 118 i0 _ 2 32 Tryz.underlying115 hi hz0 hz1 hz2 rfl (by decide) _ _ _ rfl (hown.alloc _) ⟨wr.heap.size,0,none⟩ 1 1 [.string k,.string v] rfl rfl ?a7 ?b7 ?c7 ?d7 ?e7 ?_))
    try case a7=>exact cells_twoE _ _ _ _ rfl
    case b7=>first|exact⟨rfl,rfl⟩|(intro u hu;simp at hu;rcases hu with rfl|rfl<;>rfl)
    case c7=>unfold maxLen;omega
    case d7=>omega
    case e7=>first|omega|(simp;omega)
    intro v3 w3 hown3 hgr3 _;obtain⟨hbel3,_⟩:=after_appE (q:=0) hbel hown (by omega) hgr3;go_wp2;go_ret;exact⟨_,rfl,by rw[HP.o];simpa [PlainE.flat_append,PlainE.flat] using own_lessE hown3 (Nat.le_succ _),((Below.refl _ w).alloc (Nat.le_refl _) _).trans (hbel3.1.mono (by omega))⟩
   ·go_wp2
    go_ret;exact⟨_,rfl,by rw[HP.o];exact own_lessE hown (Nat.le_succ _),hw0⟩
end

section
open Go.RowKit Plain PlainE

namespace PlainE
def cutB(r:ByteArray):ByteArray:=r.extract 0 (min r.size 32)
def keysE(raw:List ByteArray):List Ent:=raw.foldl (λ l r=>putL l (cutB r,⟨#[]⟩)) []
theorem keysE_snoc(xs:List ByteArray)(x:ByteArray):keysE (xs++[x])=putL (keysE xs) (cutB x,⟨#[]⟩):=by unfold keysE;rw[List.foldl_append];rfl
theorem cutB_size(r:ByteArray):(cutB r).size<=32:=by unfold cutB;rw[ByteArray.size_extract];omega
theorem keysE_asc(xs:List ByteArray):Asc (keysE xs):=by
 have:∀(xs:List ByteArray) (l:List Ent),Asc l->Asc (xs.foldl (λ l r=>putL l (cutB r,⟨#[]⟩)) l):=by
  intro xs
  induction xs with
  | nil=>intro l h;exact h
  | cons x r ih=>intro l h;exact ih _ (putL_asc _ _ h)
 exact this xs [] trivial
theorem keysE_size(xs:List ByteArray):∀ y∈keysE xs,y.1.size<=32:=by
 have:∀(xs:List ByteArray) (l:List Ent),(∀ y∈l,y.1.size<=32)->∀ y∈xs.foldl (λ l r=>putL l (cutB r,⟨#[]⟩)) l,y.1.size<=32:=by
  intro xs
  induction xs with
  | nil=>intro l h;exact h
  | cons x r ih =>
   intro l h;refine ih _ λ y hy=>?_;simp only[putL_ins] at hy;rcases ins_mem _ _ _ _ hy with rfl|hy
   ·exact cutB_size x
   ·exact h y hy
 exact this xs [] (by simp)
theorem keysE_len(xs:List ByteArray):(keysE xs).length<=xs.length:=by
 have:∀(xs:List ByteArray) (l:List Ent),(xs.foldl (λ l r=>putL l (cutB r,⟨#[]⟩)) l).length<=l.length+xs.length:=by
  intro xs
  induction xs with
  | nil=>intro l;simp
  | cons x r ih =>
   intro l;have h1:=ih (putL l (cutB x,⟨#[]⟩));have h2:=putL_len l (cutB x,⟨#[]⟩);simp only[List.foldl_cons,List.length_cons];omega
 have h:=this xs [];rw[List.length_nil,Nat.zero_add] at h;exact h
def keyCells(l:List Ent):List Value:=l.map λ x=>.string x.1
end PlainE

theorem Tryz.info9: (Tryz.prog.info? 9).map (λ i=>(i.zero,i.size,i.bytes))=some (some (.string ByteArray.empty),1,16):=by kernel_rfl

theorem keys_any(A:Option Addr)(n c:Nat)(ss:List ByteArray)(most:Nat)(w:World)(hn:ss.length=n)(hm:most<=1000000)
  (hR:Rdv w w.heap.size (.slice A n c) n (ss.map Value.string)) (hsz:∀ s∈ss,s.size<=maxLen) :
  Calls Tryz.prog 35 #[.slice A n c,.int .i64 most] w λ e w' =>
   ∃ v',e=.returned v'/\w'.ownsRow w.heap.size 9 1 v' (keysE (ss.take most)).length (keyCells (keysE (ss.take most)))/\Below w.heap.size w w':=by
 obtain⟨i0,hi,hz0,hz1,hz2⟩:=info_parts Tryz.info9;have hnm:n<=maxLen:=by
  obtain⟨A',c',he,h1,h2,_⟩:=hR;omega
 unfold maxLen at hnm;go_enter Tryz.func35,Tryz.ntmps35;go_wp2;go_loopw [5,6] (λ l i wr=>∃ j:Nat,j<=n/\j<=most/\i=.int .i64 j/\wr.ownsRow w.heap.size 118 2 l (keysE (ss.take j)).length (PlainE.flat (keysE (ss.take j)))/\Below w.heap.size w wr)
  (λ_ i _=>n-(intOf i).toNat)
 case atStart=>exact⟨0,by omega,by omega,rfl,World.ownsRow_nil _ _ _ _,Below.refl _ _⟩
 case round =>
  obtain⟨j,hj,hjm,rfl,hown,hbel⟩:=hrel
  by_cases hlt:j<n/\j<most
  ·obtain⟨h1,h2⟩:=hlt
   obtain⟨A',c',he,hc,hcm,hA⟩:=hR;obtain⟨rfl,rfl⟩:A=A'/\c=c':=by simpa using he
   obtain⟨g,off,rfl,hg,hcell⟩:=hA (by omega);obtain⟨x,hx⟩:∃ x,x=ss[j]:=⟨_,rfl⟩;have hst:keysE (ss.take (j+1))=putL (keysE (ss.take j)) (cutB x,⟨#[]⟩):=by rw[take_snoc ss j (by omega),keysE_snoc,hx]
   have hx1:wr.cell? ⟨g,off+j,none⟩=some (.string x):=by
    rw[hbel.cell (p:=⟨g,_,none⟩) hg];exact hcell _ _ (by rw[List.getElem?_map,List.getElem?_eq_getElem (by omega),hx];rfl)
   have hxs:x.size<=maxLen:=hsz x (by rw[hx];exact List.getElem_mem _);unfold maxLen at hxs;have hll:=keysE_len (ss.take j);rw[List.length_take] at hll;obtain⟨A1,c1,rfl,r1⟩:=rdv_own hown;have hRd:Rdv wr wr.heap.size (.slice A1 (keysE (ss.take j)).length c1) (keysE (ss.take j)).length (PlainE.flat (keysE (ss.take j))):=⟨A1,c1,rfl,r1⟩;have HST:=Hd hst;clear hst hx hcell r1
   by_cases h32:32<x.size
   ·have hcut:x.extract 0 32=cutB x:=by unfold cutB;rw[Nat.min_eq_right (by omega)]
    have HC:=Hd hcut;clear hcut;go_wp2_with fail;rw[HC.o];refine(put_any _ _ _ _ _ _ _ rfl (by omega) hRd).mono ?_;rintro e w1 ⟨v1,rfl,hown1,hbel1⟩;have hz1':=hbel.size;go_wp2;go_roundw
    case rel=>exact⟨j+1,by omega,by omega,by go_num,by rw[HST.o];exact own_lessE hown1 hz1',hbel.trans (hbel1.mono hz1')⟩
    case measure=>simp[intOf];omega
   ·have hcut:cutB x=x:=by
     unfold cutB;rw[Nat.min_eq_left (by omega)];exact ByteArray.extract_zero_size
    have HST2:Hid (keysE (ss.take (j+1))=putL (keysE (ss.take j)) (x,⟨#[]⟩)):=Hd (by rw[HST.o,hcut]);clear hcut HST;go_wp2_with fail;refine(put_any _ _ _ _ _ _ _ rfl (by omega) hRd).mono ?_;rintro e w1 ⟨v1,rfl,hown1,hbel1⟩;have hz1':=hbel.size;go_wp2;go_roundw
    case rel=>exact⟨j+1,by omega,by omega,by go_num,by rw[HST2.o];exact own_lessE hown1 hz1',hbel.trans (hbel1.mono hz1')⟩
    case measure=>simp[intOf];omega
  ·have hfull:ss.take j=ss.take most:=by
    rcases Nat.lt_or_ge j n with h|h
    ·have:j=most:=by omega
     rw[this]
    ·rw[List.take_of_length_le (by omega),List.take_of_length_le (by omega)]
   rw[hfull] at hown;have hll:=keysE_len (ss.take most);rw[List.length_take] at hll;have htest:(decide (j<n)&&decide (j<most))=false:=by simpa using hlt
   clear hfull hR hlt;obtain⟨L,hL⟩:∃ L,keysE (ss.take most)=L:=⟨_,rfl⟩;rw[hL] at hown hll;have HL:=Hd hL;clear hL;rename World=>W1;have hcl:=hown.lt;obtain⟨A1,c1,rfl,hc1,hcm1,r1⟩:=rdv_own hown;have hj':j<n->decide (j<most)=false:=λ h=>by simp[h] at htest;simp;exact htest
   by_cases hjn:j<n
   ·have hjm2:=hj' hjn
    clear hj' htest;go_wp2_with fail;go_loopw [8,9] (λ o i wr=>∃ q:Nat,q<=L.length/\i=.int .i64 q/\wr.ownsRow W1.heap.size 9 1 o q (keyCells (L.take q))/\Below W1.heap.size W1 wr) (λ_ i _=>L.length-(intOf i).toNat)
    case atStart=>exact⟨0,by omega,rfl,World.ownsRow_nil _ _ _ _,Below.refl _ _⟩
    case round =>
     obtain⟨q,hq,rfl,hownq,hbelq⟩:=hrel
     by_cases hql:q<L.length
     ·obtain⟨g,off,rfl,hg,hcell⟩:=r1 (by omega)
      obtain⟨x,hx⟩:∃ x,x=L[q]:=⟨_,rfl⟩;have hfa:=flat_at L q hql;rw[←hx] at hfa;have hx1:wr.cell? ⟨g,off+q*2,none⟩=some (.string x.1):=by
       rw[hbelq.cell (p:=⟨g,_,none⟩) hg];exact hcell _ _ hfa.1
      have hst:Hid (keyCells (L.take (q+1))=keyCells (L.take q)++[.string x.1]):=Hd (by rw[take_snoc L q hql,hx];unfold keyCells;rw[List.map_append];rfl);have hzq:=hbelq.size;clear hx hfa hcell;go_wp2_with (at_builtin;go_must (refine wpList_append_own _ rfl (.tmp 39) (.tmp 45) 22 rfl W1.heap.size 9 i0 _ 1 16 Tryz.underlying22 hi hz0 hz1 hz2 rfl (by decide) _ _ _ rfl (hownq.alloc _) ⟨wr.heap.size,0,none⟩ 1 1 [.string x.1] rfl rfl ?a1 ?b1 ?c1 ?d1 ?e1 ?_))
      try case a1=>exact cell_one_new _ _ _
      try case b1=>first|rfl|(intro u hu;simp at hu;subst hu;rfl)
      try case c1=>unfold maxLen;omega
      try case d1=>omega
      try case e1=>first|omega|(simp;omega)
      intro v2 w2 hown2 hgr2 _;obtain⟨hbel2,_⟩:=after_appE (q:=0) hbelq hownq (by omega) hgr2;go_wp2;go_roundw
      case rel=>exact⟨q+1,by omega,by go_num,by rw[hst.out];exact hown2,hbel2.1⟩
      case measure=>simp[intOf];omega
     ·obtain rfl:q=L.length:=by omega
      rw[List.take_of_length_le (Nat.le_refl _)] at hownq;go_wp2;go_ret;exact⟨_,rfl,by rw[HL.o];exact own_lessE hownq hbel.size,hbel.trans (hbelq.mono hbel.size)⟩
   ·clear hj' htest
    go_wp2_with fail;go_loopw [8,9] (λ o i wr=>∃ q:Nat,q<=L.length/\i=.int .i64 q/\wr.ownsRow W1.heap.size 9 1 o q (keyCells (L.take q))/\Below W1.heap.size W1 wr) (λ_ i _=>L.length-(intOf i).toNat)
    case atStart=>exact⟨0,by omega,rfl,World.ownsRow_nil _ _ _ _,Below.refl _ _⟩
    case round =>
     obtain⟨q,hq,rfl,hownq,hbelq⟩:=hrel
     by_cases hql:q<L.length
     ·obtain⟨g,off,rfl,hg,hcell⟩:=r1 (by omega)
      obtain⟨x,hx⟩:∃ x,x=L[q]:=⟨_,rfl⟩;have hfa:=flat_at L q hql;rw[←hx] at hfa;have hx1:wr.cell? ⟨g,off+q*2,none⟩=some (.string x.1):=by
       rw[hbelq.cell (p:=⟨g,_,none⟩) hg];exact hcell _ _ hfa.1
      have hst:Hid (keyCells (L.take (q+1))=keyCells (L.take q)++[.string x.1]):=Hd (by rw[take_snoc L q hql,hx];unfold keyCells;rw[List.map_append];rfl);have hzq:=hbelq.size;clear hx hfa hcell;go_wp2_with (at_builtin;go_must (refine wpList_append_own _ rfl (.tmp 39) (.tmp 45) 22 rfl W1.heap.size 9 i0 _ 1 16 Tryz.underlying22 hi hz0 hz1 hz2 rfl (by decide) _ _ _ rfl (hownq.alloc _) ⟨wr.heap.size,0,none⟩ 1 1 [.string x.1] rfl rfl ?a2 ?b2 ?c2 ?d2 ?e2 ?_))
      try case a2=>exact cell_one_new _ _ _
      try case b2=>first|rfl|(intro u hu;simp at hu;subst hu;rfl)
      try case c2=>unfold maxLen;omega
      try case d2=>omega
      try case e2=>first|omega|(simp;omega)
      intro v2 w2 hown2 hgr2 _;obtain⟨hbel2,_⟩:=after_appE (q:=0) hbelq hownq (by omega) hgr2;go_wp2;go_roundw
      case rel=>exact⟨q+1,by omega,by go_num,by rw[hst.out];exact hown2,hbel2.1⟩
      case measure=>simp[intOf];omega
     ·obtain rfl:q=L.length:=by omega
      rw[List.take_of_length_le (Nat.le_refl _)] at hownq;go_wp2;go_ret;exact⟨_,rfl,by rw[HL.o];exact own_lessE hownq hbel.size,hbel.trans (hbelq.mono hbel.size)⟩
end
end Go.Proofs.YtlkgmnjceghpiaaGreat
