/- ProgL, ProgM. -/
import Derived.Test.YtecmfdkhcffpmaaGreatB28
namespace Go.Proofs.YtecmfdkhcffpmaaGreat
open Go.RowKit
set_option linter.unusedVariables false
set_option linter.unusedSimpArgs false
set_option linter.unusedSectionVars false
set_option maxHeartbeats 8000000
set_option maxRecDepth 100000
section
open Mc
structure KQ (B b:Nat)(ai:Option Addr)(w w':World):Prop where
 below:Below 0 w w'
 same:∀k,k<B->k≠b->ai≠some ⟨k,0,none⟩->w'.heap[k]?=w.heap[k]?
theorem KQ.refl (B b:Nat)(ai:Option Addr)(w:World):KQ B b ai w w:=⟨Below.refl _ _,fun _ _ _ _=>rfl⟩
theorem KQ.trans {B b:Nat}{ai:Option Addr}{x y z:World}(h1:KQ B b ai x y)(h2:KQ B b ai y z):KQ B b ai x z:=⟨h1.below.trans h2.below,fun k hk e1 e2=>(h2.same k hk e1 e2).trans (h1.same k hk e1 e2)⟩
theorem KQ.bel {B b:Nat}{ai:Option Addr}{x y z:World}(h1:KQ B b ai x y)(hb:Below y.heap.size y z)(hB:B<=y.heap.size):KQ B b ai x z:=h1.trans ⟨hb.mono (Nat.zero_le _),fun k hk _ _=>hb.block k (by omega)⟩
theorem KQ.kp {B b:Nat}{ai:Option Addr}{x y z:World}(h1:KQ B b ai x y)(hb:KP b ai y z)(hB:B<=y.heap.size):KQ B b ai x z:=h1.trans ⟨hb.below,fun k hk e1 e2=>hb.same k (by omega) e1 e2⟩
theorem KQ.oth {B b g:Nat}{ai:Option Addr}{x y z:World}(h1:KQ B b ai x y)(hb:Below 0 y z)(hs:∀k,k≠g->z.heap[k]?=y.heap[k]?)(hg:B<=g):KQ B b ai x z:=h1.trans ⟨hb,fun k hk _ _=>hs k (by omega)⟩
theorem KQ.Ac {b:Nat}{ai:Option Addr}{w w':World}(h:KQ w.heap.size b ai w w'):KP b ai w w':=⟨h.below,h.same⟩
theorem KQ.size {B b:Nat}{ai:Option Addr}{x y:World}(h:KQ B b ai x y):x.heap.size<=y.heap.size:=h.below.size
structure PB (B b:Nat)(ai:Option Addr)(lg:Nat->Nat)(n:Nat):Prop where
 b:b<B
 ai:0<n->∀g,ai=some ⟨g,0,none⟩->g<B
 lg:∀i,i<n->lg i<B
theorem PM.pb {w:World}{b:Nat}{ai:Option Addr}{ci:Nat}{lg:Nat->Nat}{its:List Wd.It}{S:Ma}(h:PM w b ai ci lg its S):PB w.heap.size b ai lg its.length :=
 ⟨h.root.lt,fun hl g hg=>by obtain ⟨g',e1,e2,_⟩:=h.items hl;rw[hg] at e1;cases e1;exact e2.lt,fun i hi=>(h.leads i hi).1.lt⟩
theorem PM.qI {B:Nat}{w':World}{w:World}{b:Nat}{ai:Option Addr}{ci:Nat}{lg:Nat->Nat}{its:List Wd.It}{S:Ma}(h:PM w b ai ci lg its S)(hB:PB B b ai lg its.length)(hs:∀k,k<B->w'.heap[k]?=w.heap[k]?):PM w' b ai ci lg its S :=
 ⟨h.root.same (hs _ hB.b),fun hl=>(h.items hl).imp fun g hg=>⟨hg.1,hg.2.1.same (hs _ (hB.ai hl g hg.1)),hg.2.2⟩,fun i hi=>⟨(h.leads i hi).1.same (hs _ (hB.lg i hi)),(h.leads i hi).2⟩,h.caps,h.ab⟩
theorem vX (its:List Wd.It)(lg:Nat->Nat)(f:Fr)(o:Bool)(j:Nat)(hj:j<13):(fpV its lg f o)[j]?=some (fpC its lg f o j):=by
 unfold fpC
 rw[List.getElem?_eq_getElem (by simp[fpV];omega)];rfl
theorem Ti {w:World}{b:Nat}{ai:Option Addr}{ci:Nat}{lg:Nat->Nat}{its:List Wd.It}{S:Ma}(c:Nat)(hc:c<3)(f:Fr)(o:Bool)(hh:(S.cp c).h.there=true->o=f.there)(i:Nat)(h79:i<79):(if (if (S.cp c).h.there=true then 1+c*26+13 else 1+c*26)<=i then ((fpV its lg f o)[i-(if (S.cp c).h.there=true then 1+c*26+13 else 1+c*26)]?).getD (pmF ai ci its lg S i) else pmF ai ci its lg S i)=pmF ai ci its lg (fB S c f o) i:=by
 unfold pmF
 by_cases i0:i=0
 ·subst i0
  rw[if_neg (by split<;>omega)]
  simp
 ·rw[if_neg i0,if_neg i0]
  obtain ⟨m,hm⟩:∃m,(i-1)%26=m:=⟨_,rfl⟩
  have GL:m<26:=by rw[<-hm];exact Nat.mod_lt _ (by omega)
  rw[hm]
  unfold pcF fB av
  by_cases e:(i-1) / 26=c
  ·have hi:i=1+c*26+m:=by omega
   simp only[e,if_true]
   cases hth:(S.cp c).h.there
   ·simp only[Bool.false_eq_true,if_false]
    rw[if_pos (by omega),hi,Nat.add_sub_cancel_left]
    by_cases gm:m<13
    ·rw[if_pos gm,if_pos gm,vX _ _ _ _ _ gm];rfl
    ·rw[if_neg gm,if_neg gm,List.getElem?_eq_none (by simp[fpV];omega)];simp[hth]
   ·simp only[if_true]
    by_cases gm:m<13
    ·rw[if_pos gm,if_neg (by omega),if_pos gm]
    ·rw[if_neg gm,if_pos (by omega),if_neg gm,hh hth,hi,show 1+c*26+m-(1+c*26+13)=m-13 by omega,vX _ _ _ _ _ (by omega)];rfl
  ·simp only[if_neg e]
   by_cases hle:(if (S.cp c).h.there=true then 1+c*26+13 else 1+c*26)<=i
   ·rw[if_pos hle,List.getElem?_eq_none (by simp[fpV];split at hle<;>split<;>omega)];rfl
   ·rw[if_neg hle]
theorem PM.lay {w:World}{b:Nat}{ai:Option Addr}{ci:Nat}{lg:Nat->Nat}{its:List Wd.It}{S:Ma}(h:PM w b ai ci lg its S)(c:Nat)(hc:c<3)(f:Fr)(o:Bool)(hh:(S.cp c).h.there=true->o=f.there):PM (w.setCells b (if (S.cp c).h.there=true then 1+c*26+13 else 1+c*26) (fpV its lg f o)) b ai ci lg its (fB S c f o):=by
 refine h.upd ((KP.refl b ai w).sets _ _) ?_ ?_
 ·exact (Blk.sets _ _ _ _ h.root).congr fun i hi=>Ti (w:=w) (b:=b) c hc f o hh i hi
 ·intro g hl hg
  obtain ⟨g',e1,e2,e3⟩:=h.items hl
  rw[hg] at e1;cases e1
  exact (e2.kK e3 _ _).congr fun i hi=>rfl
theorem zq {w:World}{g:Nat}{t:TypeId}{its:List Wd.It}{lg:Nat->Nat}{f:Fr}{o:Bool}(h:Row w g (aP its lg f o) t)(p h':Nat)(o':Bool):Row (w.setCells g 5 (stA p h' o').toList) g (aP its lg {f with pos:=p,held:=h'} o') t:=by
 have:=Row.sets (stA p h' o').toList 5 w _ h
 simpa [wO,stA,aP,fpV,fb,fl] using this
theorem FU (its:List Wd.It)(lg:Nat->Nat):aP its lg aH false=#[.bool false,.int .i64 0,.bool false,.string ⟨#[]⟩,.slice none 0 0,.int .i64 0,.bool false,.bool false,.bool false,.bool false,.bool false,.bool false,.bool false]:=rfl
theorem xI {its:List Wd.It}{S:Ma}(ho:bf its)(hi:Inv its 3 S)(c:Nat):∀(m:Nat) (l:Int),ig its S c m l=leadsTo its S c m (gZ S l)
 | 0,l=>by cases gZ S l<;>rfl
 | m+1,l=>by
  unfold ig
  cases hl:gZ S l with
  | none =>
   simp only[leadsTo]
   rw[xI ho hi c m (-1)]
   have:gZ S (-1)=none:=rfl
   rw[this]
   cases m<;>rfl
  | some d =>
   simp only[leadsTo]
   by_cases e:d=c
   ·simp[e]
   ·simp only[e,if_false]
    rw[xI ho hi c m]
    congr 1
    have hf:=iB hi d (ES hl)
    unfold kL nx lW
    rcases Dw hf with ⟨h1,h2,h3⟩ | ⟨h1,h2⟩
    ·rw[h2]
     by_cases e43:stands its (works S d)=43
     ·rw[if_pos e43,if_pos e43]
      have ha:atB (ah its (works S d).item) (works S d).pos=43:=by rw[<-e43,<-h2,atF,h3]
      have hn:=Ed ho (hf.item h1) (Or.inl ha)
      have hnn:0<=num (ah its (works S d).item) (works S d).pos:=(jD (ho.pair _ (hf.item h1)) (Or.inl ha)).1
      unfold dG aW gZ
      rw[h3,if_pos (Or.inl ha),if_pos hnn];rfl
     ·rw[if_neg e43,if_neg e43];rfl
    ·rw[h1,h2];rfl
theorem vF {its:List Wd.It}{S:Ma}(ho:bf its)(hi:Inv its 3 S)(c:Nat){f:Fr}{hd:Bool}(hf:gD its hd f)(hth:f.there=true):sF its S c f=bY its S c f:=by
 have hb:fb its f=ah its f.item:=vE hth
 have hA:atF its f=atB (ah its f.item) f.pos:=by rw[atF,hb]
 unfold sF bY
 rw[hA]
 by_cases e:atB (ah its f.item) f.pos=43
 ·rw[if_pos e,if_pos e]
  have hnn:0<=num (ah its f.item) f.pos:=(jD (ho.pair _ (hf.item hth)) (Or.inl e)).1
  have hN:dG its f=num (ah its f.item) f.pos:=by unfold dG aW;rw[hb,if_pos (Or.inl e)]
  have h3:gZ S (dG its f)=holder S 3 (num (ah its f.item) f.pos).toNat:=by rw[hN,gZ,if_pos hnn]
  unfold kM oJ
  rw[xI ho hi,h3]
  cases holder S 3 (num (ah its f.item) f.pos).toNat<;>rfl
 ·rw[if_neg e,if_neg e]
  by_cases e2:atB (ah its f.item) f.pos=114\/atB (ah its f.item) f.pos=119
  ·rw[if_pos e2,if_pos e2]
   have hN:dG its f=num (ah its f.item) f.pos:=by unfold dG aW;rw[hb,if_pos (by omega)]
   rw[hN];rfl
  ·rw[if_neg e2,if_neg e2]
theorem xJ {its:List Wd.It}(hf:bH its){f:Fr}(hs:Sits its f)(hth:f.there=true)(hi:f.item<its.length):jS (atB (ah its f.item) f.pos):=by
 have hp:=hs hth
 unfold jS
 by_cases e:f.pos<(ah its f.item).length
 ·have hk:=hp.kind (hf.bd _ hi) (hf.iq _ hi) e
  have ha:atB (ah its f.item) f.pos=Wd.at_ (ah its f.item) f.pos:=by simp[atB,e]
  rw[ha]
  unfold iM sole at hk
  omega
 ·have ha:atB (ah its f.item) f.pos=101:=by simp[atB,e]
  omega
end
section
open Mc
theorem tZ (w:World)(g k:Nat)(cs:Array Value)(h:k≠g):(w.setRow g cs).heap[k]?=w.heap[k]?:=setRow_other w g k cs h
theorem zb {its:List Wd.It}{lg:Nat->Nat}{f:Fr}(h:f.there=true):fl its lg f=some ⟨lg f.item,0,none⟩:=by simp[fl,h]
theorem Qp (its:List Wd.It)(lg:Nat->Nat)(f:Fr)(o:Bool):∃v0 v1 v2 v3 v4 v5 v6 v7 v8 v9 v10 v11 v12:Value,fpV its lg f o=[v0,v1,v2,v3,v4,v5,v6,v7,v8,v9,v10,v11,v12]:=⟨_,_,_,_,_,_,_,_,_,_,_,_,_,rfl⟩
theorem PM.drew {w:World}{b:Nat}{ai:Option Addr}{ci:Nat}{lg:Nat->Nat}{its:List Wd.It}{S:Ma}(h:PM w b ai ci lg its S):PM w.drew b ai ci lg its S:=h.below ((Below.refl _ _).drew)
theorem PM.there {w:World}{b:Nat}{ai:Option Addr}{ci:Nat}{lg:Nat->Nat}{its:List Wd.It}{S:Ma}(h:PM w b ai ci lg its S)(c:Nat)(hc:c<3):w.there b (1+c*26) 26:=h.root.there _ _ (by omega)
theorem PM.hth {w:World}{b:Nat}{ai:Option Addr}{ci:Nat}{lg:Nat->Nat}{its:List Wd.It}{S:Ma}(h:PM w b ai ci lg its S)(c:Nat)(hc:c<3):w.cell? ⟨b,1+c*26+13,none⟩=some (.bool (S.cp c).h.there):=qD h c hc 0 _ rfl
theorem yO (w:World)(b:Nat)(ai:Option Addr)(ci:Nat)(lg:Nat->Nat)(its:List Wd.It)(S:Ma)(c:Nat)(f:Fr)(o:Bool)(h:PM w b ai ci lg its S)(hc:c<3)(hh:(S.cp c).h.there=true->o=f.there) :
  Calls Tryz.prog 139 #[.pointer (some ⟨b,1+c*26,none⟩),.agg (aP its lg f o)] w fun e w'=>e=.returned (.tuple #[])/\PM w' b ai ci lg its (fB S c f o)/\KP b ai w w':=by
 refine (KH w b (1+c*26) (fpV its lg f o) (S.cp c).h.there (h.there c hc) rfl (vV _ _ _ _) (h.hth c hc)).mono ?_
 rintro e w' ⟨rfl,rfl⟩
 exact ⟨rfl,(h.alloc _).lay c hc f o hh,((KP.refl b ai w).alloc _).sets _ _⟩
theorem Mw (w:World)(b:Nat)(ai:Option Addr)(ci:Nat)(lg:Nat->Nat)(its:List Wd.It)(S:Ma)(c:Nat)(comma:Bool)(h:PM w b ai ci lg its S)(hc:c<3)(hth:(works S c).there=false) :
  Calls Tryz.prog 116 #[.pointer (some ⟨b,0,none⟩),.int .i64 c,.bool comma] w fun e w'=>e=.returned (.int .u8 95)/\PM w' b ai ci lg its S/\KP b ai w w':=by
 have AW:=hide (nX w b ai ci lg its S c h hc)
 have HM:=hide h
 have HT:=hide hth
 clear h hth
 generalize works S c=f at *
 generalize aJ S c=o at *
 go_enter Tryz.func116,Tryz.ntmps116
 go_wp2_with (first|(refine wpList_store_row rfl 93 _ _ rfl w1.heap.size (aP its lg f o) rfl rfl 93 #[.bool false,.int .i64 0,.bool false,.string ⟨#[]⟩,.slice none 0 0,.int .i64 0,.bool false,.bool false,.bool false,.bool false,.bool false,.bool false,.bool false] ?_ (Tryz.iFrmA _ _ _ _) rfl (nk _ _ _ _) ?_;(exact (Row.new w1 #[.bool false,.int .i64 0,.bool false,.string ⟨#[]⟩,.slice none 0 0,.int .i64 0,.bool false,.bool false,.bool false,.bool false,.bool false,.bool false,.bool false] 93).raw);rw[World.setRow_alloc_new];have HR2:=hide (Row.new w1 (aP its lg f o) 93);have HB2:=hide (aL hb1 (.cells (aP its lg f o) 93));generalize w1.alloc (.cells (aP its lg f o) 93)=w2 at *;have p2:=rG HR2.out;rw[HT.out] at p2)|(go_at_call 136;refine (AW.out).mono ?_;rintro e w1 ⟨rfl,hb1⟩))
 go_ret
 exact ⟨rfl,HM.out.below HB2.out,KP.of HB2.out⟩
theorem Mx (w:World)(b:Nat)(ai:Option Addr)(ci:Nat)(lg:Nat->Nat)(its:List Wd.It)(S:Ma)(c:Nat)(comma:Bool)(h:PM w b ai ci lg its S)(ho:bf its)(hi:Inv its 3 S)(hc:c<3)(hth:(works S c).there=true)(H:Int)(hH:bY its S c (works S c)=H)(hne:H≠0) :
  Calls Tryz.prog 116 #[.pointer (some ⟨b,0,none⟩),.int .i64 c,.bool comma] w fun e w'=>e=.returned (.int .u8 H)/\PM w' b ai ci lg its S/\KP b ai w w':=by
 have AW:=hide (nX w b ai ci lg its S c h hc)
 have hfr:=iB hi c hc
 have AH:=hide (fun W (hW:Below w.heap.size w W)=>uo W b ai ci lg its S c (works S c) (aJ S c) (S.cp c).h.there (h.below hW) ho hi hc hfr)
 rw[vF ho hi c hfr hth] at AH
 have HM:=hide h
 have HT:=hide hth
 have hpos:0<its.length:=by have:=hfr.item hth;omega
 have HPB:=hide h.pb
 have oZ:(0:Int)<=(c:Int):=by omega
 have o5:(c:Int)<3:=by omega
 rw[hH] at AH
 have t1:(H != 0)=true:=by simp[hne]
 clear h hth hfr hi ho hH hne
 generalize works S c=f at *
 generalize aJ S c=o at *
 go_enter Tryz.func116,Tryz.ntmps116
 go_wp2_with (first|(go_at_call 137;refine (AH.out _ HB2.out).mono ?_;rintro e w3 ⟨rfl,hb3⟩;have HR3:=hide (HR2.out.below hb3);have HB3:=hide (ak HB2.out hb3);clear hb3)|(refine wpList_load_row rfl 93 _ rfl _ rfl 93 (aP its lg f o) (0,0) _ ?_ Tryz.underlying93 rfl (Tryz.iFrmA _ _ _ _) ?_;(exact HR2.out.raw))|(refine wpList_store_row rfl 93 _ _ rfl w1.heap.size (aP its lg f o) rfl rfl 93 #[.bool false,.int .i64 0,.bool false,.string ⟨#[]⟩,.slice none 0 0,.int .i64 0,.bool false,.bool false,.bool false,.bool false,.bool false,.bool false,.bool false] ?_ (Tryz.iFrmA _ _ _ _) rfl (nk _ _ _ _) ?_;(exact (Row.new w1 #[.bool false,.int .i64 0,.bool false,.string ⟨#[]⟩,.slice none 0 0,.int .i64 0,.bool false,.bool false,.bool false,.bool false,.bool false,.bool false,.bool false] 93).raw);rw[World.setRow_alloc_new];have HR2:=hide (Row.new w1 (aP its lg f o) 93);have HB2:=hide (aL hb1 (.cells (aP its lg f o) 93));have hg:w.heap.size<=w1.heap.size:=hb1.size;generalize w1.alloc (.cells (aP its lg f o) 93)=w2 at *;have p2:=rG HR2.out;rw[HT.out] at p2;clear hb1)|(go_at_call 136;refine (AW.out).mono ?_;rintro e w1 ⟨rfl,hb1⟩))
 go_ret
 exact ⟨rfl,HM.out.below HB3.out,KP.of HB3.out⟩
theorem Qq (w:World)(b:Nat)(ai:Option Addr)(ci:Nat)(lg:Nat->Nat)(its:List Wd.It)(S:Ma)(c:Nat)(comma:Bool)(h:PM w b ai ci lg its S)(ho:bf its)(hi:Inv its 3 S)(hfi:bH its)(hs:Ats its 3 S)(hc:c<3)(hth:(works S c).there=true)(hH:bY its S c (works S c)=0)(np nh:Nat)(no:Bool)(L:Int)(hst:aS (isH its (works S c).item) (ah its (works S c).item) (works S c).pos (works S c).held (aJ S c) comma=((np,nh,no),L))(hL:L≠122/\L≠101)(hno:(S.cp c).h.there=true->no=true) :
  Calls Tryz.prog 116 #[.pointer (some ⟨b,0,none⟩),.int .i64 c,.bool comma] w fun e w'=>e=.returned (.int .u8 L)/\PM w' b ai ci lg its (fB S c {works S c with pos:=np,held:=nh} no)/\KP b ai w w':=by
 have AW:=hide (nX w b ai ci lg its S c h hc)
 have hfr:=iB hi c hc
 have AH:=hide (fun W (hW:Below w.heap.size w W)=>uo W b ai ci lg its S c (works S c) (aJ S c) (S.cp c).h.there (h.below hW) ho hi hc hfr)
 rw[vF ho hi c hfr hth] at AH
 have HM:=hide h
 have HT:=hide hth
 have hpos:0<its.length:=by have:=hfr.item hth;omega
 have HPB:=hide h.pb
 have oZ:(0:Int)<=(c:Int):=by omega
 have o5:(c:Int)<3:=by omega
 rw[hH] at AH
 have hk:=xJ hfi (hs.works c hc) hth (hfr.item hth)
 have AS:Hid (∀W,Below w.heap.size w W->Calls Tryz.prog 128 #[.agg #[.bool ((works S c).there&&isH its (works S c).item),.string (Wd.mkS (fb its (works S c))),.slice (fl its lg (works S c)) (fb its (works S c)).length (fb its (works S c)).length],.agg (stA (works S c).pos (works S c).held (aJ S c)),.bool comma] W fun e w'=>e=.returned (.tuple #[.agg (stA np nh no),.int .u8 L])/\Below W.heap.size W w'):=by
  apply hide
  intro W hW
  have hb:=ho.body _ (hfr.item hth)
  have hp:=hfr.pos hth
  have:=uD (isH its (works S c).item) (Wd.mkS (ah its (works S c).item)) (lg (works S c).item) (works S c).pos (works S c).held (aJ S c) comma W (by rw[Wd.bN];exact hb) (by omega) hfr.held (ho.pair _ (hfr.item hth)) hk (by rw[Wd.bN];exact ((h.leads _ (hfr.item hth)).1.below hW))
  rw[Wd.bN,Wd.fM,hst] at this
  rw[vE hth,zb hth,hth,Bool.true_and]
  exact this
 have t1:(L==122)=false:=by simp[hL.1]
 have t2:(L==101)=false:=by simp[hL.2]
 have ASW:=hide (fun W (hW:PM W b ai ci lg its S)=>yO W b ai ci lg its S c {works S c with pos:=np,held:=nh} no hW hc (fun e=>by rw[hno e];exact hth.symm))
 clear h hth hfr hi ho hH hk hfi hs hst hL hno
 generalize works S c=f at *
 generalize aJ S c=o at *
 obtain ⟨ud,hu,hdd⟩:=Tryz.uCodeR
 have HU:=hide hu
 have HD:=hide hdd
 clear hu hdd
 obtain ⟨us,hus,hds⟩:=Tryz.uStateR
 have HUS:=hide hus
 have HDS:=hide hds
 clear hus hds
 obtain ⟨v0,v1,v2,v3,v4,v5,v6,v7,v8,v9,v10,v11,v12,hV⟩:=Qp its lg {f with pos:=np,held:=nh} no
 have HV:Hid (aP its lg {f with pos:=np,held:=nh} no=#[v0,v1,v2,v3,v4,v5,v6,v7,v8,v9,v10,v11,v12]):=by apply hide;unfold aP;rw[hV]
 clear hV
 go_enter Tryz.func116,Tryz.ntmps116
 go_wp2_with (first|(refine wpList_store_mid rfl 91 _ _ rfl _ _ (stA np nh no) rfl rfl ?_ (Tryz.iStA _ _ _) (ny _ _ _) ?_;(exact HR5.out.there 5 8 (by rw[yM];omega));have HR6:=hide (zq HR5.out np nh no);have HS6:=hide (HS5.out.kK (g:=w1.heap.size) (by omega) 5 (stA np nh no).toList);have HK6:=hide ((KQ.refl w.heap.size b ai w).bel HB5.out (Nat.le_refl _) |>.oth (g:=w1.heap.size) (Below.setCells w1.heap.size (Nat.zero_le _) (stA np nh no).toList 5 _ (Below.refl _ _)) (fun k hk=>heap_setCells_other _ _ _ _ k hk) hg);have HM6:=hide (HM.out.qI HM.out.pb (fun k hk=>(heap_setCells_other w1.heap.size (stA np nh no).toList 5 w5 k (by omega)).trans (HB5.out.block k hk)));generalize w5.setCells w1.heap.size 5 (stA np nh no).toList=w6 at *;have z1:=za HR6.out;have z2:=HS6.out.cell 0 (vU np nh no))|(refine wpList_load_row rfl 91 _ rfl _ rfl 91 (stA np nh no) (0,0) _ ?_ Tryz.underlying91 rfl (Tryz.iStA _ _ _) ?_;(exact HS5.out.raw))|(refine wpList_store_row rfl 91 _ _ rfl w4.heap.size (stA np nh no) rfl rfl 91 #[.int .i64 0,.bool false,.bool false,.bool false,.bool false,.bool false,.bool false,.bool false] ?_ (Tryz.iStA _ _ _) rfl (ny _ _ _) ?_;(exact (Row.new w4 #[.int .i64 0,.bool false,.bool false,.bool false,.bool false,.bool false,.bool false,.bool false] 91).raw);rw[World.setRow_alloc_new];have HS5:=hide (Row.new w4 (stA np nh no) 91);have HB5:=hide (aL HB4.out (.cells (stA np nh no) 91));have HR5:=hide (HR4.out.alloc (.cells (stA np nh no) 91));have hg4:w1.heap.size<w4.heap.size:=HR4.out.lt;generalize w4.alloc (.cells (stA np nh no) 91)=w5 at *;skip)|(refine wpList_load_mid rfl 88 _ rfl _ _ rfl [.bool (f.there&&isH its f.item),.string (Wd.mkS (fb its f)),.slice (fl its lg f) (fb its f).length (fb its f).length] ud ?_ HU.out HD.out Tryz.iCode ?_;(exact iW HR3.out))|(refine wpList_load_mid rfl 91 _ rfl _ _ rfl (stA f.pos f.held o).toList us ?_ HUS.out HDS.out Tryz.iState ?_;(exact yN HR3.out))|(go_at_call 128;refine (AS.out _ HB3.out).mono ?_;rintro e w4 ⟨rfl,hb4⟩;have HR4:=hide (HR3.out.below hb4);have HB4:=hide (ak HB3.out hb4);clear hb4)|(go_at_call 137;refine (AH.out _ HB2.out).mono ?_;rintro e w3 ⟨rfl,hb3⟩;have HR3:=hide (HR2.out.below hb3);have HB3:=hide (ak HB2.out hb3);clear hb3)|(refine wpList_load_row rfl 93 _ rfl _ rfl 93 (aP its lg f o) (0,0) _ ?_ Tryz.underlying93 rfl (Tryz.iFrmA _ _ _ _) ?_;(exact HR2.out.raw))|(refine wpList_store_row rfl 93 _ _ rfl w1.heap.size (aP its lg f o) rfl rfl 93 #[.bool false,.int .i64 0,.bool false,.string ⟨#[]⟩,.slice none 0 0,.int .i64 0,.bool false,.bool false,.bool false,.bool false,.bool false,.bool false,.bool false] ?_ (Tryz.iFrmA _ _ _ _) rfl (nk _ _ _ _) ?_;(exact (Row.new w1 #[.bool false,.int .i64 0,.bool false,.string ⟨#[]⟩,.slice none 0 0,.int .i64 0,.bool false,.bool false,.bool false,.bool false,.bool false,.bool false,.bool false] 93).raw);rw[World.setRow_alloc_new];have HR2:=hide (Row.new w1 (aP its lg f o) 93);have HB2:=hide (aL hb1 (.cells (aP its lg f o) 93));have hg:w.heap.size<=w1.heap.size:=hb1.size;generalize w1.alloc (.cells (aP its lg f o) 93)=w2 at *;have p2:=rG HR2.out;rw[HT.out] at p2;clear hb1)|(go_at_call 136;refine (AW.out).mono ?_;rintro e w1 ⟨rfl,hb1⟩))
 rw[HV.out] at HR6 ASW
 clear z1 z2
 have HNE:Hid (w1.heap.size≠b/\ai≠some ⟨w1.heap.size,0,none⟩):=hide ⟨by have:=HPB.out.b;omega,fun e=>by have:=HPB.out.ai hpos _ e;omega⟩
 have y0:w6.cell? ⟨w1.heap.size,0,none⟩=some v0:=HR6.out.cell 0 rfl
 have y1:w6.cell? ⟨w1.heap.size,1,none⟩=some v1:=HR6.out.cell 1 rfl
 have y2:w6.cell? ⟨w1.heap.size,2,none⟩=some v2:=HR6.out.cell 2 rfl
 have y3:w6.cell? ⟨w1.heap.size,3,none⟩=some v3:=HR6.out.cell 3 rfl
 have y4:w6.cell? ⟨w1.heap.size,4,none⟩=some v4:=HR6.out.cell 4 rfl
 have y5:w6.cell? ⟨w1.heap.size,5,none⟩=some v5:=HR6.out.cell 5 rfl
 have y6:w6.cell? ⟨w1.heap.size,6,none⟩=some v6:=HR6.out.cell 6 rfl
 have y7:w6.cell? ⟨w1.heap.size,7,none⟩=some v7:=HR6.out.cell 7 rfl
 have y8:w6.cell? ⟨w1.heap.size,8,none⟩=some v8:=HR6.out.cell 8 rfl
 have y9:w6.cell? ⟨w1.heap.size,9,none⟩=some v9:=HR6.out.cell 9 rfl
 have y10:w6.cell? ⟨w1.heap.size,10,none⟩=some v10:=HR6.out.cell 10 rfl
 have y11:w6.cell? ⟨w1.heap.size,11,none⟩=some v11:=HR6.out.cell 11 rfl
 have y12:w6.cell? ⟨w1.heap.size,12,none⟩=some v12:=HR6.out.cell 12 rfl
 go_region_held3 (fun W'=>W'.cell? ⟨w1.heap.size,0,none⟩=some v0/\W'.cell? ⟨w1.heap.size,1,none⟩=some v1/\W'.cell? ⟨w1.heap.size,2,none⟩=some v2/\W'.cell? ⟨w1.heap.size,3,none⟩=some v3/\W'.cell? ⟨w1.heap.size,4,none⟩=some v4/\W'.cell? ⟨w1.heap.size,5,none⟩=some v5/\W'.cell? ⟨w1.heap.size,6,none⟩=some v6/\W'.cell? ⟨w1.heap.size,7,none⟩=some v7/\W'.cell? ⟨w1.heap.size,8,none⟩=some v8/\W'.cell? ⟨w1.heap.size,9,none⟩=some v9/\W'.cell? ⟨w1.heap.size,10,none⟩=some v10/\W'.cell? ⟨w1.heap.size,11,none⟩=some v11/\W'.cell? ⟨w1.heap.size,12,none⟩=some v12) (go_keep) (first|(go_at_call 139;refine (ASW.out _ HM6.out.drew).mono ?_;rintro e w7 ⟨rfl,hm7,hk7⟩;have HR7:=hide ((HR6.out.below ((Below.refl _ _).drew)).same (hk7.same _ (HR6.out.below ((Below.refl _ _).drew)).lt HNE.out.1 HNE.out.2));have x0:w7.cell? ⟨w1.heap.size,0,none⟩=some v0:=HR7.out.cell 0 rfl;have x1:w7.cell? ⟨w1.heap.size,1,none⟩=some v1:=HR7.out.cell 1 rfl;have x2:w7.cell? ⟨w1.heap.size,2,none⟩=some v2:=HR7.out.cell 2 rfl;have x3:w7.cell? ⟨w1.heap.size,3,none⟩=some v3:=HR7.out.cell 3 rfl;have x4:w7.cell? ⟨w1.heap.size,4,none⟩=some v4:=HR7.out.cell 4 rfl;have x5:w7.cell? ⟨w1.heap.size,5,none⟩=some v5:=HR7.out.cell 5 rfl;have x6:w7.cell? ⟨w1.heap.size,6,none⟩=some v6:=HR7.out.cell 6 rfl;have x7:w7.cell? ⟨w1.heap.size,7,none⟩=some v7:=HR7.out.cell 7 rfl;have x8:w7.cell? ⟨w1.heap.size,8,none⟩=some v8:=HR7.out.cell 8 rfl;have x9:w7.cell? ⟨w1.heap.size,9,none⟩=some v9:=HR7.out.cell 9 rfl;have x10:w7.cell? ⟨w1.heap.size,10,none⟩=some v10:=HR7.out.cell 10 rfl;have x11:w7.cell? ⟨w1.heap.size,11,none⟩=some v11:=HR7.out.cell 11 rfl;have x12:w7.cell? ⟨w1.heap.size,12,none⟩=some v12:=HR7.out.cell 12 rfl))
 clear y0 x0 y1 x1 y2 x2 y3 x3 y4 x4 y5 x5 y6 x6 y7 x7 y8 x8 y9 x9 y10 x10 y11 x11 y12 x12
 have HK7:=hide (((HK6.out.bel ((Below.refl _ _).drew) HK6.out.size).kp hk7 (by have:=HK6.out.size;simpa using this)).Ac)
 have HM7:=hide hm7
 clear hm7 hk7
 go_wp2
 go_ret
 exact ⟨rfl,HM7.out,HK7.out⟩
theorem Ot (w:World)(b:Nat)(ai:Option Addr)(ci:Nat)(lg:Nat->Nat)(its:List Wd.It)(S:Ma)(c:Nat)(comma:Bool)(h:PM w b ai ci lg its S)(ho:bf its)(hi:Inv its 3 S)(hfi:bH its)(hs:Ats its 3 S)(hc:c<3)(hth:(works S c).there=true)(hH:bY its S c (works S c)=0)(np nh:Nat)(no:Bool)(hst:aS (isH its (works S c).item) (ah its (works S c).item) (works S c).pos (works S c).held (aJ S c) comma=((np,nh,no),101)) :
  Calls Tryz.prog 116 #[.pointer (some ⟨b,0,none⟩),.int .i64 c,.bool comma] w fun e w'=>e=.returned (.int .u8 101)/\PM w' b ai ci lg its (fB S c aH false)/\KP b ai w w':=by
 have AW:=hide (nX w b ai ci lg its S c h hc)
 have hfr:=iB hi c hc
 have AH:=hide (fun W (hW:Below w.heap.size w W)=>uo W b ai ci lg its S c (works S c) (aJ S c) (S.cp c).h.there (h.below hW) ho hi hc hfr)
 rw[vF ho hi c hfr hth] at AH
 have HM:=hide h
 have HT:=hide hth
 have hpos:0<its.length:=by have:=hfr.item hth;omega
 have HPB:=hide h.pb
 have oZ:(0:Int)<=(c:Int):=by omega
 have o5:(c:Int)<3:=by omega
 rw[hH] at AH
 have hk:=xJ hfi (hs.works c hc) hth (hfr.item hth)
 have AS:Hid (∀W,Below w.heap.size w W->Calls Tryz.prog 128 #[.agg #[.bool ((works S c).there&&isH its (works S c).item),.string (Wd.mkS (fb its (works S c))),.slice (fl its lg (works S c)) (fb its (works S c)).length (fb its (works S c)).length],.agg (stA (works S c).pos (works S c).held (aJ S c)),.bool comma] W fun e w'=>e=.returned (.tuple #[.agg (stA np nh no),.int .u8 101])/\Below W.heap.size W w'):=by
  apply hide
  intro W hW
  have hb:=ho.body _ (hfr.item hth)
  have hp:=hfr.pos hth
  have:=uD (isH its (works S c).item) (Wd.mkS (ah its (works S c).item)) (lg (works S c).item) (works S c).pos (works S c).held (aJ S c) comma W (by rw[Wd.bN];exact hb) (by omega) hfr.held (ho.pair _ (hfr.item hth)) hk (by rw[Wd.bN];exact ((h.leads _ (hfr.item hth)).1.below hW))
  rw[Wd.bN,Wd.fM,hst] at this
  rw[vE hth,zb hth,hth,Bool.true_and]
  exact this
 have ASW:=hide (fun W (hW:PM W b ai ci lg its S)=>yO W b ai ci lg its S c aH false hW hc (fun _=>rfl))
 rw[FU] at ASW
 clear h hth hfr hi ho hH hk hfi hs hst
 generalize works S c=f at *
 generalize aJ S c=o at *
 obtain ⟨ud,hu,hdd⟩:=Tryz.uCodeR
 have HU:=hide hu
 have HD:=hide hdd
 clear hu hdd
 obtain ⟨us,hus,hds⟩:=Tryz.uStateR
 have HUS:=hide hus
 have HDS:=hide hds
 clear hus hds
 go_enter Tryz.func116,Tryz.ntmps116
 go_wp2_with (first|(refine wpList_store_row rfl 93 _ _ rfl w1.heap.size #[.bool false,.int .i64 0,.bool false,.string ⟨#[]⟩,.slice none 0 0,.int .i64 0,.bool false,.bool false,.bool false,.bool false,.bool false,.bool false,.bool false] rfl rfl 93 (aP its lg {f with pos:=np,held:=nh} no) ?_ Tryz.iFrameP rfl (by simp[Value.oneCell']) ?_;(exact HR6.out.raw);have HR8:=hide (HR6.out.setRow #[.bool false,.int .i64 0,.bool false,.string ⟨#[]⟩,.slice none 0 0,.int .i64 0,.bool false,.bool false,.bool false,.bool false,.bool false,.bool false,.bool false]);have HM8:=hide (HM6.out.qI HPB.out (fun k hk=>tZ w6 w1.heap.size k #[.bool false,.int .i64 0,.bool false,.string ⟨#[]⟩,.slice none 0 0,.int .i64 0,.bool false,.bool false,.bool false,.bool false,.bool false,.bool false,.bool false] (by omega)));have HK8:=hide (HK6.out.oth (g:=w1.heap.size) (below_setRow (Below.refl 0 _) (Nat.zero_le _) #[.bool false,.int .i64 0,.bool false,.string ⟨#[]⟩,.slice none 0 0,.int .i64 0,.bool false,.bool false,.bool false,.bool false,.bool false,.bool false,.bool false]) (fun k hk=>tZ w6 w1.heap.size k #[.bool false,.int .i64 0,.bool false,.string ⟨#[]⟩,.slice none 0 0,.int .i64 0,.bool false,.bool false,.bool false,.bool false,.bool false,.bool false,.bool false] hk) hg);generalize w6.setRow w1.heap.size #[.bool false,.int .i64 0,.bool false,.string ⟨#[]⟩,.slice none 0 0,.int .i64 0,.bool false,.bool false,.bool false,.bool false,.bool false,.bool false,.bool false]=w8 at *)|(refine wpList_store_mid rfl 91 _ _ rfl _ _ (stA np nh no) rfl rfl ?_ (Tryz.iStA _ _ _) (ny _ _ _) ?_;(exact HR5.out.there 5 8 (by rw[yM];omega));have HR6:=hide (zq HR5.out np nh no);have HS6:=hide (HS5.out.kK (g:=w1.heap.size) (by omega) 5 (stA np nh no).toList);have HK6:=hide ((KQ.refl w.heap.size b ai w).bel HB5.out (Nat.le_refl _) |>.oth (g:=w1.heap.size) (Below.setCells w1.heap.size (Nat.zero_le _) (stA np nh no).toList 5 _ (Below.refl _ _)) (fun k hk=>heap_setCells_other _ _ _ _ k hk) hg);have HM6:=hide (HM.out.qI HM.out.pb (fun k hk=>(heap_setCells_other w1.heap.size (stA np nh no).toList 5 w5 k (by omega)).trans (HB5.out.block k hk)));generalize w5.setCells w1.heap.size 5 (stA np nh no).toList=w6 at *;have z1:=za HR6.out;have z2:=HS6.out.cell 0 (vU np nh no))|(refine wpList_load_row rfl 91 _ rfl _ rfl 91 (stA np nh no) (0,0) _ ?_ Tryz.underlying91 rfl (Tryz.iStA _ _ _) ?_;(exact HS5.out.raw))|(refine wpList_store_row rfl 91 _ _ rfl w4.heap.size (stA np nh no) rfl rfl 91 #[.int .i64 0,.bool false,.bool false,.bool false,.bool false,.bool false,.bool false,.bool false] ?_ (Tryz.iStA _ _ _) rfl (ny _ _ _) ?_;(exact (Row.new w4 #[.int .i64 0,.bool false,.bool false,.bool false,.bool false,.bool false,.bool false,.bool false] 91).raw);rw[World.setRow_alloc_new];have HS5:=hide (Row.new w4 (stA np nh no) 91);have HB5:=hide (aL HB4.out (.cells (stA np nh no) 91));have HR5:=hide (HR4.out.alloc (.cells (stA np nh no) 91));have hg4:w1.heap.size<w4.heap.size:=HR4.out.lt;generalize w4.alloc (.cells (stA np nh no) 91)=w5 at *;skip)|(refine wpList_load_mid rfl 88 _ rfl _ _ rfl [.bool (f.there&&isH its f.item),.string (Wd.mkS (fb its f)),.slice (fl its lg f) (fb its f).length (fb its f).length] ud ?_ HU.out HD.out Tryz.iCode ?_;(exact iW HR3.out))|(refine wpList_load_mid rfl 91 _ rfl _ _ rfl (stA f.pos f.held o).toList us ?_ HUS.out HDS.out Tryz.iState ?_;(exact yN HR3.out))|(go_at_call 128;refine (AS.out _ HB3.out).mono ?_;rintro e w4 ⟨rfl,hb4⟩;have HR4:=hide (HR3.out.below hb4);have HB4:=hide (ak HB3.out hb4);clear hb4)|(go_at_call 137;refine (AH.out _ HB2.out).mono ?_;rintro e w3 ⟨rfl,hb3⟩;have HR3:=hide (HR2.out.below hb3);have HB3:=hide (ak HB2.out hb3);clear hb3)|(refine wpList_load_row rfl 93 _ rfl _ rfl 93 (aP its lg f o) (0,0) _ ?_ Tryz.underlying93 rfl (Tryz.iFrmA _ _ _ _) ?_;(exact HR2.out.raw))|(refine wpList_store_row rfl 93 _ _ rfl w1.heap.size (aP its lg f o) rfl rfl 93 #[.bool false,.int .i64 0,.bool false,.string ⟨#[]⟩,.slice none 0 0,.int .i64 0,.bool false,.bool false,.bool false,.bool false,.bool false,.bool false,.bool false] ?_ (Tryz.iFrmA _ _ _ _) rfl (nk _ _ _ _) ?_;(exact (Row.new w1 #[.bool false,.int .i64 0,.bool false,.string ⟨#[]⟩,.slice none 0 0,.int .i64 0,.bool false,.bool false,.bool false,.bool false,.bool false,.bool false,.bool false] 93).raw);rw[World.setRow_alloc_new];have HR2:=hide (Row.new w1 (aP its lg f o) 93);have HB2:=hide (aL hb1 (.cells (aP its lg f o) 93));have hg:w.heap.size<=w1.heap.size:=hb1.size;generalize w1.alloc (.cells (aP its lg f o) 93)=w2 at *;have p2:=rG HR2.out;rw[HT.out] at p2;clear hb1)|(go_at_call 136;refine (AW.out).mono ?_;rintro e w1 ⟨rfl,hb1⟩))
 have HNE:Hid (w1.heap.size≠b/\ai≠some ⟨w1.heap.size,0,none⟩):=hide ⟨by have:=HPB.out.b;omega,fun e=>by have:=HPB.out.ai hpos _ e;omega⟩
 have y0:w8.cell? ⟨w1.heap.size,0,none⟩=some (.bool false):=HR8.out.cell 0 rfl
 have y1:w8.cell? ⟨w1.heap.size,1,none⟩=some (.int .i64 0):=HR8.out.cell 1 rfl
 have y2:w8.cell? ⟨w1.heap.size,2,none⟩=some (.bool false):=HR8.out.cell 2 rfl
 have y3:w8.cell? ⟨w1.heap.size,3,none⟩=some (.string ⟨#[]⟩):=HR8.out.cell 3 rfl
 have y4:w8.cell? ⟨w1.heap.size,4,none⟩=some (.slice none 0 0):=HR8.out.cell 4 rfl
 have y5:w8.cell? ⟨w1.heap.size,5,none⟩=some (.int .i64 0):=HR8.out.cell 5 rfl
 have y6:w8.cell? ⟨w1.heap.size,6,none⟩=some (.bool false):=HR8.out.cell 6 rfl
 have y7:w8.cell? ⟨w1.heap.size,7,none⟩=some (.bool false):=HR8.out.cell 7 rfl
 have y8:w8.cell? ⟨w1.heap.size,8,none⟩=some (.bool false):=HR8.out.cell 8 rfl
 have y9:w8.cell? ⟨w1.heap.size,9,none⟩=some (.bool false):=HR8.out.cell 9 rfl
 have y10:w8.cell? ⟨w1.heap.size,10,none⟩=some (.bool false):=HR8.out.cell 10 rfl
 have y11:w8.cell? ⟨w1.heap.size,11,none⟩=some (.bool false):=HR8.out.cell 11 rfl
 have y12:w8.cell? ⟨w1.heap.size,12,none⟩=some (.bool false):=HR8.out.cell 12 rfl
 go_region_held3 (fun W'=>W'.cell? ⟨w1.heap.size,0,none⟩=some (.bool false)/\W'.cell? ⟨w1.heap.size,1,none⟩=some (.int .i64 0)/\W'.cell? ⟨w1.heap.size,2,none⟩=some (.bool false)/\W'.cell? ⟨w1.heap.size,3,none⟩=some (.string ⟨#[]⟩)/\W'.cell? ⟨w1.heap.size,4,none⟩=some (.slice none 0 0)/\W'.cell? ⟨w1.heap.size,5,none⟩=some (.int .i64 0)/\W'.cell? ⟨w1.heap.size,6,none⟩=some (.bool false)/\W'.cell? ⟨w1.heap.size,7,none⟩=some (.bool false)/\W'.cell? ⟨w1.heap.size,8,none⟩=some (.bool false)/\W'.cell? ⟨w1.heap.size,9,none⟩=some (.bool false)/\W'.cell? ⟨w1.heap.size,10,none⟩=some (.bool false)/\W'.cell? ⟨w1.heap.size,11,none⟩=some (.bool false)/\W'.cell? ⟨w1.heap.size,12,none⟩=some (.bool false)) (go_keep) (first|(go_at_call 139;refine (ASW.out _ HM8.out.drew).mono ?_;rintro e w9 ⟨rfl,hm7,hk7⟩;have HR9:=hide ((HR8.out.below ((Below.refl _ _).drew)).same (hk7.same _ (HR8.out.below ((Below.refl _ _).drew)).lt HNE.out.1 HNE.out.2));have x0:w9.cell? ⟨w1.heap.size,0,none⟩=some (.bool false):=HR9.out.cell 0 rfl;have x1:w9.cell? ⟨w1.heap.size,1,none⟩=some (.int .i64 0):=HR9.out.cell 1 rfl;have x2:w9.cell? ⟨w1.heap.size,2,none⟩=some (.bool false):=HR9.out.cell 2 rfl;have x3:w9.cell? ⟨w1.heap.size,3,none⟩=some (.string ⟨#[]⟩):=HR9.out.cell 3 rfl;have x4:w9.cell? ⟨w1.heap.size,4,none⟩=some (.slice none 0 0):=HR9.out.cell 4 rfl;have x5:w9.cell? ⟨w1.heap.size,5,none⟩=some (.int .i64 0):=HR9.out.cell 5 rfl;have x6:w9.cell? ⟨w1.heap.size,6,none⟩=some (.bool false):=HR9.out.cell 6 rfl;have x7:w9.cell? ⟨w1.heap.size,7,none⟩=some (.bool false):=HR9.out.cell 7 rfl;have x8:w9.cell? ⟨w1.heap.size,8,none⟩=some (.bool false):=HR9.out.cell 8 rfl;have x9:w9.cell? ⟨w1.heap.size,9,none⟩=some (.bool false):=HR9.out.cell 9 rfl;have x10:w9.cell? ⟨w1.heap.size,10,none⟩=some (.bool false):=HR9.out.cell 10 rfl;have x11:w9.cell? ⟨w1.heap.size,11,none⟩=some (.bool false):=HR9.out.cell 11 rfl;have x12:w9.cell? ⟨w1.heap.size,12,none⟩=some (.bool false):=HR9.out.cell 12 rfl))
 clear y0 x0 y1 x1 y2 x2 y3 x3 y4 x4 y5 x5 y6 x6 y7 x7 y8 x8 y9 x9 y10 x10 y11 x11 y12 x12
 have HK9:=hide (((HK8.out.bel ((Below.refl _ _).drew) HK8.out.size).kp hk7 (by have:=HK8.out.size;simpa using this)).Ac)
 have HM9:=hide hm7
 clear hm7 hk7
 go_wp2
 go_ret
 exact ⟨rfl,HM9.out,HK9.out⟩
theorem RU (w:World)(b:Nat)(ai:Option Addr)(ci:Nat)(lg:Nat->Nat)(its:List Wd.It)(S:Ma)(c:Nat)(comma:Bool)(h:PM w b ai ci lg its S)(ho:bf its)(hi:Inv its 3 S)(hfi:bH its)(hs:Ats its 3 S)(hc:c<3)(hth:(works S c).there=true)(hH:bY its S c (works S c)=0)(np nh:Nat)(no:Bool)(hst:aS (isH its (works S c).item) (ah its (works S c).item) (works S c).pos (works S c).held (aJ S c) comma=((np,nh,no),122))(hnp:np<=20000) :
  Calls Tryz.prog 116 #[.pointer (some ⟨b,0,none⟩),.int .i64 c,.bool comma] w fun e w'=>e=.returned (.int .u8 122)/\PM w' b ai ci lg its (fB (bA (aQ S (works S c).item true) (works S c).item np) c aH false)/\KP b ai w w':=by
 have AW:=hide (nX w b ai ci lg its S c h hc)
 have hfr:=iB hi c hc
 have AH:=hide (fun W (hW:Below w.heap.size w W)=>uo W b ai ci lg its S c (works S c) (aJ S c) (S.cp c).h.there (h.below hW) ho hi hc hfr)
 rw[vF ho hi c hfr hth] at AH
 have HM:=hide h
 have HT:=hide hth
 have hpos:0<its.length:=by have:=hfr.item hth;omega
 have HPB:=hide h.pb
 have oZ:(0:Int)<=(c:Int):=by omega
 have o5:(c:Int)<3:=by omega
 rw[hH] at AH
 have hk:=xJ hfi (hs.works c hc) hth (hfr.item hth)
 have AS:Hid (∀W,Below w.heap.size w W->Calls Tryz.prog 128 #[.agg #[.bool ((works S c).there&&isH its (works S c).item),.string (Wd.mkS (fb its (works S c))),.slice (fl its lg (works S c)) (fb its (works S c)).length (fb its (works S c)).length],.agg (stA (works S c).pos (works S c).held (aJ S c)),.bool comma] W fun e w'=>e=.returned (.tuple #[.agg (stA np nh no),.int .u8 122])/\Below W.heap.size W w'):=by
  apply hide
  intro W hW
  have hb:=ho.body _ (hfr.item hth)
  have hp:=hfr.pos hth
  have:=uD (isH its (works S c).item) (Wd.mkS (ah its (works S c).item)) (lg (works S c).item) (works S c).pos (works S c).held (aJ S c) comma W (by rw[Wd.bN];exact hb) (by omega) hfr.held (ho.pair _ (hfr.item hth)) hk (by rw[Wd.bN];exact ((h.leads _ (hfr.item hth)).1.below hW))
  rw[Wd.bN,Wd.fM,hst] at this
  rw[vE hth,zb hth,hth,Bool.true_and]
  exact this
 have AM:=hide (fun W (hW:PM W b ai ci lg its S)=>BG W b ai ci lg its S (works S c).item np hW (hfr.item hth) hnp)
 have ASW:=hide (fun W (hW:PM W b ai ci lg its (bA (aQ S (works S c).item true) (works S c).item np))=>yO W b ai ci lg its _ c aH false hW hc (fun _=>rfl))
 rw[FU] at ASW
 clear h hth hfr hi ho hH hk hfi hs hst
 generalize works S c=f at *
 generalize aJ S c=o at *
 obtain ⟨ud,hu,hdd⟩:=Tryz.uCodeR
 have HU:=hide hu
 have HD:=hide hdd
 clear hu hdd
 obtain ⟨us,hus,hds⟩:=Tryz.uStateR
 have HUS:=hide hus
 have HDS:=hide hds
 clear hus hds
 go_enter Tryz.func116,Tryz.ntmps116
 go_wp2_with (first|(refine wpList_store_row rfl 93 _ _ rfl w1.heap.size #[.bool false,.int .i64 0,.bool false,.string ⟨#[]⟩,.slice none 0 0,.int .i64 0,.bool false,.bool false,.bool false,.bool false,.bool false,.bool false,.bool false] rfl rfl 93 (aP its lg {f with pos:=np,held:=nh} no) ?_ Tryz.iFrameP rfl (by simp[Value.oneCell']) ?_;(exact HR7.out.raw);have HR8:=hide (HR7.out.setRow #[.bool false,.int .i64 0,.bool false,.string ⟨#[]⟩,.slice none 0 0,.int .i64 0,.bool false,.bool false,.bool false,.bool false,.bool false,.bool false,.bool false]);have HM8:=hide (HM7.out.qI HPB.out (fun k hk=>tZ w7 w1.heap.size k #[.bool false,.int .i64 0,.bool false,.string ⟨#[]⟩,.slice none 0 0,.int .i64 0,.bool false,.bool false,.bool false,.bool false,.bool false,.bool false,.bool false] (by omega)));have HK8:=hide (HK7.out.oth (g:=w1.heap.size) (below_setRow (Below.refl 0 _) (Nat.zero_le _) #[.bool false,.int .i64 0,.bool false,.string ⟨#[]⟩,.slice none 0 0,.int .i64 0,.bool false,.bool false,.bool false,.bool false,.bool false,.bool false,.bool false]) (fun k hk=>tZ w7 w1.heap.size k #[.bool false,.int .i64 0,.bool false,.string ⟨#[]⟩,.slice none 0 0,.int .i64 0,.bool false,.bool false,.bool false,.bool false,.bool false,.bool false,.bool false] hk) hg);generalize w7.setRow w1.heap.size #[.bool false,.int .i64 0,.bool false,.string ⟨#[]⟩,.slice none 0 0,.int .i64 0,.bool false,.bool false,.bool false,.bool false,.bool false,.bool false,.bool false]=w8 at *)|(go_at_call 138;refine (AM.out _ HM6.out).mono ?_;rintro e w7 ⟨rfl,hm7,hk7⟩;have HR7:=hide (HR6.out.same (hk7.same _ HR6.out.lt HNE.out.1 HNE.out.2));have HM7:=hide hm7;have HK7:=hide (HK6.out.kp hk7 HK6.out.size);clear hm7 hk7)|(refine wpList_store_mid rfl 91 _ _ rfl _ _ (stA np nh no) rfl rfl ?_ (Tryz.iStA _ _ _) (ny _ _ _) ?_;(exact HR5.out.there 5 8 (by rw[yM];omega));have HR6:=hide (zq HR5.out np nh no);have HS6:=hide (HS5.out.kK (g:=w1.heap.size) (by omega) 5 (stA np nh no).toList);have HK6:=hide ((KQ.refl w.heap.size b ai w).bel HB5.out (Nat.le_refl _) |>.oth (g:=w1.heap.size) (Below.setCells w1.heap.size (Nat.zero_le _) (stA np nh no).toList 5 _ (Below.refl _ _)) (fun k hk=>heap_setCells_other _ _ _ _ k hk) hg);have HM6:=hide (HM.out.qI HM.out.pb (fun k hk=>(heap_setCells_other w1.heap.size (stA np nh no).toList 5 w5 k (by omega)).trans (HB5.out.block k hk)));generalize w5.setCells w1.heap.size 5 (stA np nh no).toList=w6 at *;have z1:=za HR6.out;have z2:=HS6.out.cell 0 (vU np nh no))|(refine wpList_load_row rfl 91 _ rfl _ rfl 91 (stA np nh no) (0,0) _ ?_ Tryz.underlying91 rfl (Tryz.iStA _ _ _) ?_;(exact HS5.out.raw))|(refine wpList_store_row rfl 91 _ _ rfl w4.heap.size (stA np nh no) rfl rfl 91 #[.int .i64 0,.bool false,.bool false,.bool false,.bool false,.bool false,.bool false,.bool false] ?_ (Tryz.iStA _ _ _) rfl (ny _ _ _) ?_;(exact (Row.new w4 #[.int .i64 0,.bool false,.bool false,.bool false,.bool false,.bool false,.bool false,.bool false] 91).raw);rw[World.setRow_alloc_new];have HS5:=hide (Row.new w4 (stA np nh no) 91);have HB5:=hide (aL HB4.out (.cells (stA np nh no) 91));have HR5:=hide (HR4.out.alloc (.cells (stA np nh no) 91));have hg4:w1.heap.size<w4.heap.size:=HR4.out.lt;generalize w4.alloc (.cells (stA np nh no) 91)=w5 at *;skip)|(refine wpList_load_mid rfl 88 _ rfl _ _ rfl [.bool (f.there&&isH its f.item),.string (Wd.mkS (fb its f)),.slice (fl its lg f) (fb its f).length (fb its f).length] ud ?_ HU.out HD.out Tryz.iCode ?_;(exact iW HR3.out))|(refine wpList_load_mid rfl 91 _ rfl _ _ rfl (stA f.pos f.held o).toList us ?_ HUS.out HDS.out Tryz.iState ?_;(exact yN HR3.out))|(go_at_call 128;refine (AS.out _ HB3.out).mono ?_;rintro e w4 ⟨rfl,hb4⟩;have HR4:=hide (HR3.out.below hb4);have HB4:=hide (ak HB3.out hb4);clear hb4)|(go_at_call 137;refine (AH.out _ HB2.out).mono ?_;rintro e w3 ⟨rfl,hb3⟩;have HR3:=hide (HR2.out.below hb3);have HB3:=hide (ak HB2.out hb3);clear hb3)|(refine wpList_load_row rfl 93 _ rfl _ rfl 93 (aP its lg f o) (0,0) _ ?_ Tryz.underlying93 rfl (Tryz.iFrmA _ _ _ _) ?_;(exact HR2.out.raw))|(refine wpList_store_row rfl 93 _ _ rfl w1.heap.size (aP its lg f o) rfl rfl 93 #[.bool false,.int .i64 0,.bool false,.string ⟨#[]⟩,.slice none 0 0,.int .i64 0,.bool false,.bool false,.bool false,.bool false,.bool false,.bool false,.bool false] ?_ (Tryz.iFrmA _ _ _ _) rfl (nk _ _ _ _) ?_;(exact (Row.new w1 #[.bool false,.int .i64 0,.bool false,.string ⟨#[]⟩,.slice none 0 0,.int .i64 0,.bool false,.bool false,.bool false,.bool false,.bool false,.bool false,.bool false] 93).raw);rw[World.setRow_alloc_new];have HR2:=hide (Row.new w1 (aP its lg f o) 93);have HB2:=hide (aL hb1 (.cells (aP its lg f o) 93));have hg:w.heap.size<=w1.heap.size:=hb1.size;generalize w1.alloc (.cells (aP its lg f o) 93)=w2 at *;have p2:=rG HR2.out;rw[HT.out] at p2;clear hb1;have HNE:Hid (w1.heap.size≠b/\ai≠some ⟨w1.heap.size,0,none⟩):=hide ⟨by have:=HPB.out.b;omega,fun e=>by have:=HPB.out.ai hpos _ e;omega⟩)|(go_at_call 136;refine (AW.out).mono ?_;rintro e w1 ⟨rfl,hb1⟩))
 have HNE:Hid (w1.heap.size≠b/\ai≠some ⟨w1.heap.size,0,none⟩):=hide ⟨by have:=HPB.out.b;omega,fun e=>by have:=HPB.out.ai hpos _ e;omega⟩
 have y0:w8.cell? ⟨w1.heap.size,0,none⟩=some (.bool false):=HR8.out.cell 0 rfl
 have y1:w8.cell? ⟨w1.heap.size,1,none⟩=some (.int .i64 0):=HR8.out.cell 1 rfl
 have y2:w8.cell? ⟨w1.heap.size,2,none⟩=some (.bool false):=HR8.out.cell 2 rfl
 have y3:w8.cell? ⟨w1.heap.size,3,none⟩=some (.string ⟨#[]⟩):=HR8.out.cell 3 rfl
 have y4:w8.cell? ⟨w1.heap.size,4,none⟩=some (.slice none 0 0):=HR8.out.cell 4 rfl
 have y5:w8.cell? ⟨w1.heap.size,5,none⟩=some (.int .i64 0):=HR8.out.cell 5 rfl
 have y6:w8.cell? ⟨w1.heap.size,6,none⟩=some (.bool false):=HR8.out.cell 6 rfl
 have y7:w8.cell? ⟨w1.heap.size,7,none⟩=some (.bool false):=HR8.out.cell 7 rfl
 have y8:w8.cell? ⟨w1.heap.size,8,none⟩=some (.bool false):=HR8.out.cell 8 rfl
 have y9:w8.cell? ⟨w1.heap.size,9,none⟩=some (.bool false):=HR8.out.cell 9 rfl
 have y10:w8.cell? ⟨w1.heap.size,10,none⟩=some (.bool false):=HR8.out.cell 10 rfl
 have y11:w8.cell? ⟨w1.heap.size,11,none⟩=some (.bool false):=HR8.out.cell 11 rfl
 have y12:w8.cell? ⟨w1.heap.size,12,none⟩=some (.bool false):=HR8.out.cell 12 rfl
 go_region_held3 (fun W'=>W'.cell? ⟨w1.heap.size,0,none⟩=some (.bool false)/\W'.cell? ⟨w1.heap.size,1,none⟩=some (.int .i64 0)/\W'.cell? ⟨w1.heap.size,2,none⟩=some (.bool false)/\W'.cell? ⟨w1.heap.size,3,none⟩=some (.string ⟨#[]⟩)/\W'.cell? ⟨w1.heap.size,4,none⟩=some (.slice none 0 0)/\W'.cell? ⟨w1.heap.size,5,none⟩=some (.int .i64 0)/\W'.cell? ⟨w1.heap.size,6,none⟩=some (.bool false)/\W'.cell? ⟨w1.heap.size,7,none⟩=some (.bool false)/\W'.cell? ⟨w1.heap.size,8,none⟩=some (.bool false)/\W'.cell? ⟨w1.heap.size,9,none⟩=some (.bool false)/\W'.cell? ⟨w1.heap.size,10,none⟩=some (.bool false)/\W'.cell? ⟨w1.heap.size,11,none⟩=some (.bool false)/\W'.cell? ⟨w1.heap.size,12,none⟩=some (.bool false)) (go_keep) (first|(go_at_call 139;refine (ASW.out _ HM8.out.drew).mono ?_;rintro e w9 ⟨rfl,hm7,hk7⟩;have HR9:=hide ((HR8.out.below ((Below.refl _ _).drew)).same (hk7.same _ (HR8.out.below ((Below.refl _ _).drew)).lt HNE.out.1 HNE.out.2));have x0:w9.cell? ⟨w1.heap.size,0,none⟩=some (.bool false):=HR9.out.cell 0 rfl;have x1:w9.cell? ⟨w1.heap.size,1,none⟩=some (.int .i64 0):=HR9.out.cell 1 rfl;have x2:w9.cell? ⟨w1.heap.size,2,none⟩=some (.bool false):=HR9.out.cell 2 rfl;have x3:w9.cell? ⟨w1.heap.size,3,none⟩=some (.string ⟨#[]⟩):=HR9.out.cell 3 rfl;have x4:w9.cell? ⟨w1.heap.size,4,none⟩=some (.slice none 0 0):=HR9.out.cell 4 rfl;have x5:w9.cell? ⟨w1.heap.size,5,none⟩=some (.int .i64 0):=HR9.out.cell 5 rfl;have x6:w9.cell? ⟨w1.heap.size,6,none⟩=some (.bool false):=HR9.out.cell 6 rfl;have x7:w9.cell? ⟨w1.heap.size,7,none⟩=some (.bool false):=HR9.out.cell 7 rfl;have x8:w9.cell? ⟨w1.heap.size,8,none⟩=some (.bool false):=HR9.out.cell 8 rfl;have x9:w9.cell? ⟨w1.heap.size,9,none⟩=some (.bool false):=HR9.out.cell 9 rfl;have x10:w9.cell? ⟨w1.heap.size,10,none⟩=some (.bool false):=HR9.out.cell 10 rfl;have x11:w9.cell? ⟨w1.heap.size,11,none⟩=some (.bool false):=HR9.out.cell 11 rfl;have x12:w9.cell? ⟨w1.heap.size,12,none⟩=some (.bool false):=HR9.out.cell 12 rfl))
 clear y0 x0 y1 x1 y2 x2 y3 x3 y4 x4 y5 x5 y6 x6 y7 x7 y8 x8 y9 x9 y10 x10 y11 x11 y12 x12
 have HK9:=hide (((HK8.out.bel ((Below.refl _ _).drew) HK8.out.size).kp hk7 (by have:=HK8.out.size;simpa using this)).Ac)
 have HM9:=hide hm7
 clear hm7 hk7
 go_wp2
 go_ret
 exact ⟨rfl,HM9.out,HK9.out⟩
end
end Go.Proofs.YtecmfdkhcffpmaaGreat
