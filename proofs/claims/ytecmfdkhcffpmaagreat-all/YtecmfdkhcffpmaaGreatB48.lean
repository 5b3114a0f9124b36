/- DocL, LawW, LawA, Reports. -/
import Derived.Test.YtecmfdkhcffpmaaGreatB43
import Derived.Laws.AppendOwnNone
import Derived.Test.YtecmfdkhcffpmaaGreatB44
import Derived.Test.YtecmfdkhcffpmaaGreatB45
import Derived.Test.YtecmfdkhcffpmaaGreatB47
import Derived.Deep.QuietTactic
import Derived.BigQuiet
import Derived.Test.YtecmfdkhcffpmaaGreatRows
import Derived.ProofKit
import Derived.OpenShut
import Derived.ShutString
namespace Go.Proofs.YtecmfdkhcffpmaaGreat
open Go.RowKit
set_option linter.unusedVariables false
set_option linter.unusedSimpArgs false
set_option linter.unusedSectionVars false
set_option maxHeartbeats 8000000
set_option maxRecDepth 100000
section
open Mc
theorem xP {ops:Array Oper}{rest:List Oper}{o:Oper}{a:Act}{w:World}{Q:Exit->Act->World->Prop}(hgd:o.guard=none)(s x:Operand)
  (ho:o.op=.call {callee:=.builtin .append,args:=#[s,x],argTypes:=#[40,40]})
  (w0:World) (v:Value) (X Y:List Rp) (hs:a.eval s=v) (b:Nat) (ao:Option Addr) (cc:Nat) (hx:a.eval x=.slice ao Y.length cc) (hX:bD w0 w v X) (hY:w.ownsRow b 23 3 (.slice ao Y.length cc) Y.length (Y.flatMap rpV)) (hl:X.length+Y.length<=100000)
  (h:∀ao' cc' w',bD w0 w' (.slice ao' (X++Y).length cc') (X++Y)->(∀j,j<w.heap.size->v.ownBlock≠some j->w'.heap[j]?=w.heap[j]?)->w.heap.size<=w'.heap.size->wpList Tryz.prog ops Q rest (a.put o.dst (.slice ao' (X++Y).length cc')) w') :
  wpList Tryz.prog ops Q (o::rest) a w:=by
 obtain ⟨i0,hj0,hz0,hz1,hz2⟩:=info_parts Tryz.infoRep
 rcases hY.2 with ⟨e1,e2⟩ | ⟨g,cap,cur,e1,hb,hg,h1,h2,h3,h4⟩
 ·have hY0:Y=[]:=List.length_eq_zero_iff.1 e2
  subst hY0
  obtain ⟨ax,cx,rfl⟩:=bq hX.own
  refine wpList_append_own_none hgd s x 40 ho w0.heap.size 23 i0 3 Tryz.underlying40 hj0 _ X.length (X.flatMap rpV) hs hX.own (by rw[hx];exact e1) ?_
  have:=h ax cx w (by simpa using hX) (fun _ _ _=>rfl) (Nat.le_refl _)
  simpa using this
 ·have e1':ao=some ⟨g,0,none⟩:=by injection e1
  subst e1'
  refine wpList_append_own_at w hgd s x 40 ho w0.heap.size 23 i0 _ 3 24 Tryz.underlying40 hj0 hz0 hz1 hz2 rfl (by decide) v X.length (X.flatMap rpV) hs hX.own ⟨g,0,none⟩ Y.length cc (Y.flatMap rpV) hx (by rw[vv iY]) ?_ ?_ (by unfold maxLen;omega) (by omega) hX.b.size ?_
  ·intro j u hj
   have hjl:=(List.getElem?_eq_some_iff.1 hj).1
   rw[<-h4,List.getElem?_take] at hj
   split at hj
   ·rw[Array.getElem?_toList] at hj
    have:=aj hg hj
    rw[Addr.add_mid];simpa using this
   ·cases hj
  ·intro u hu
   obtain ⟨r,hr,hu⟩:=List.mem_flatMap.1 hu
   simp[rpV] at hu
   rcases hu with rfl|rfl|rfl<;>rfl
  ·intro v' w' hown hgr hnil hat
   obtain ⟨ao',cc',rfl⟩:=bq hown
   have e2:X.length+Y.length=(X++Y).length:=by simp
   have e3:X.flatMap rpV++Y.flatMap rpV=(X++Y).flatMap rpV:=by simp
   rw[e2,e3] at hown
   rw[e2]
   refine h ao' cc' w' ⟨hown,hX.b.grown hgr hX.b.size (fun q hq=>(fQ hX.own hq).1)⟩ (fun j hj hn=>hgr.block j hj (fun e=>hn e.symm)) hgr.size
theorem Eu (its:List Wd.It)(hf:bH its):bZ (eU its) (dX its) its.length 5=l8 its:=by
 unfold l8
 refine xD _ _ _ _ _ _ (fun i hi=>rfl) (fun k hk i hi p hp=>?_)
 exact (open Classical in qw (OY _ _ (hf.gb hi) (k+1) p))
theorem JK (s:ByteArray)(w:World)(x:Int×Int)(hs:s.size<=maxLen)(hread:Wd.aF s.data.toList=.error x) :
  Calls Tryz.prog 18 #[.string s] w fun e w'=>e=.returned (.tuple #[.slice none 0 0,.int .i64 x.1])/\Below w.heap.size w w':=by
 have hx:=Wd.jf hread
 have HX:=vg s w hs
 rw[hread] at HX
 have HXX:=hide HX
 clear HX hread
 go_enter Tryz.func18,Tryz.ntmps18
 go_wp2_with (go_at_call 41;refine HXX.out.mono ?_;rintro e w1 ⟨hb1,rfl⟩;have HB1:=hide hb1;clear hb1)
 go_ret2
 exact ⟨rfl,HB1.out⟩
theorem K3 (s:ByteArray)(w:World)(its:List Wd.It)(hs:s.size<=maxLen)(hread:Wd.aF s.data.toList=.ok its) :
  Calls Tryz.prog 18 #[.string s] w fun e w'=>∃ao cc,e=.returned (.tuple #[.slice ao (bF its).length cc,.int .i64 0])/\bD w w' (.slice ao (bF its).length cc) (bF its):=by
 have HF:=hide (jP hread)
 have hl8:=HF.out.len
 have HX:=vg s w hs
 rw[hread] at HX
 have HXX:=hide HX
 clear HX hread
 have HAE:Hid (l8 its++dP (fwK (bT its) 6) 6++jW its=bF its):=hide rfl
 have HSD:=hide (Eu its HF.out)
 have h2:=qf (fwK (bT its) 6) 6
 have h3:(jW its).length<=4:=by rw[<-yR its HF.out];exact qg _ 4
 have HSL:Hid (∀n,n<=5->(bZ (eU its) (dX its) its.length n).length<=20000/\(dU (eU its) (dX its) (n+1) its.length).length<=3000):=hide (fun n hn=>by
  have hle:∀i,i<its.length->dX its i<=301:=fun i hi=>by have:=HF.out.short i hi;unfold dX;omega
  have a1:=rH (eU its) (dX its) its.length n hle
  have a2:=ve (eU its) (dX its) (n+1) its.length hle
  have a3:n*(its.length*301)<=5*(8*301):=Nat.mul_le_mul (by omega) (Nat.mul_le_mul_right _ hl8)
  have a4:its.length*301<=8*301:=Nat.mul_le_mul_right _ hl8
  omega)
 go_enter Tryz.func18,Tryz.ntmps18
 go_wp2_with (go_at_call 41;refine HXX.out.mono ?_;rintro e w1 ⟨hb1,ia,ic,da,dc,D,rfl,hdk⟩;have HB1:=hide hb1;have HDK:=hide hdk;clear hb1 hdk)
 have HR0:=hide (bD.nil w1)
 go_loopw [7,8] (fun a d wr=>∃(n:Nat) (X:List Rp),n<=5/\d=.int .i64 ((n:Int)+1)/\X=bZ (eU its) (dX its) its.length n/\bD w1 wr a X) (fun _ d _=>6-(intOf d).toNat)
 case atStart=>exact ⟨0,[],by omega,rfl,rfl,HR0.out⟩
 case round =>
  clear HR0
  obtain ⟨n,X,hn,rfl,hX,hr⟩:=hrel
  have HR:=hide hr
  have HX:=hide hX
  clear hr hX
  obtain ⟨ao,cc,hv⟩:=bq HR.out.own
  subst hv
  have hnI:(n:Int)<=5:=by omega
  have hln:=HSL.out n hn
  have hXl:X.length<=20000:=by rw[HX.out];exact hln.1
  by_cases hnt:n<5
  ·have hn4:(n:Int)+1<=5:=by omega
   have ASo:Hid (Calls Tryz.prog 42 #[.slice ia its.length ic,.slice da its.length dc,.int .i64 ((n:Int)+1)] wr fun e w'=>∃ao cc,e=.returned (.slice ao (dU (eU its) (dX its) (n+1) its.length).length cc)/\bD wr w' (.slice ao (dU (eU its) (dX its) (n+1) its.length).length cc) (dU (eU its) (dX its) (n+1) its.length)):=hide (QV wr its ia da ic dc D (n+1) (by omega) (HDK.out.below HR.out.b))
   have HSS:=hide (rC (eU its) (dX its) its.length n)
   have hYl:=hln.2
   clear hln
   generalize dU (eU its) (dX its) (n+1) its.length=Y at *
   go_wp2_with (first|(at_builtin;refine xP rfl _ _ rfl w1 _ X Y rfl _ _ _ rfl (HR2.out) (HY2.out) ?_ ?_;(omega);intro ao' cc' w3 kN bn hsz';obtain ⟨Zw3,hZ⟩:∃Z,X++Y=Z:=⟨_,rfl⟩;rw[hZ] at kN ⊢;have UU:=hide hZ;have Ub:=hide kN;clear kN bn hsz' hZ)|(go_at_call 42;refine (ASo.out).mono ?_;rintro e w2 ⟨ao2,cc2,rfl,hr2⟩;have HR2:=hide (HR.out.below hr2.b);have HY2:=hide hr2.own;clear hr2))
   go_round
   case measure=>simp[intOf];omega
   case rel=>exact ⟨n+1,_,by omega,by go_num,by rw[HSS.out,<-HX.out,UU.out],Ub.out⟩
  ·have e:n=5:=by omega
   subst e
   rw[HSD.out] at HX
   have hX2:=HX.out
   subst hX2
   have AE:=hide (DF wr its ia da ic dc D (HDK.out.below HR.out.b))
   obtain ⟨T,hT⟩:∃T,bT its=T:=⟨_,rfl⟩
   have HTE:=hide hT
   rw[hT] at HAE h2
   clear hT
   have AR:=hide (fun W=>M5 T W)
   have AC:=hide (fun W hb=>M4 W its ia da ic dc D (HDK.out.below hb))
   generalize dP (fwK T 6) 6=S2 at *
   generalize jW its=S3 at *
   generalize l8 its=S1 at *
   go_wp2_with (first|(at_builtin;refine xP rfl _ _ rfl w1 _ Zw5 S3 rfl _ _ _ rfl (HR6.out) (HY6.out) ?_ ?_;(rw[<-Hr.out,List.length_append];omega);intro ao' cc' w7 kN bn hsz';obtain ⟨Zw7,hZ⟩:∃Z,Zw5++S3=Z:=⟨_,rfl⟩;rw[hZ] at kN ⊢;have UW:=hide hZ;have Gp:=hide kN;clear kN bn hsz' hZ)|(go_at_call 45;refine (AC.out _ Gq.out.b).mono ?_;rintro e w6 ⟨ao6,cc6,rfl,hr6⟩;have HR6:=hide (Gq.out.below hr6.b);have HY6:=hide hr6.own;clear hr6)|(at_builtin;refine xP rfl _ _ rfl w1 _ S1 S2 rfl _ _ _ rfl (HR4.out) (HY4.out) ?_ ?_;(omega);intro ao' cc' w5 kN bn hsz';obtain ⟨Zw5,hZ⟩:∃Z,S1++S2=Z:=⟨_,rfl⟩;rw[hZ] at kN ⊢;have Hr:=hide hZ;have Gq:=hide kN;clear kN bn hsz' hZ)|(go_at_call 44;refine (AR.out _).mono ?_;rintro e w4 ⟨ao4,cc4,rfl,hr4⟩;have HR4:=hide (HR3.out.below hr4.b);have HY4:=hide hr4.own;clear hr4)|(refine wpList_load_row rfl 72 _ rfl _ rfl 72 (tbA T) (0,0) _ ?_ Tryz.underlying72 rfl (Tryz.iTbD _) ?_;(exact HT3.out.raw))|(refine wpList_store_row rfl 72 _ _ rfl w2.heap.size (tbA T) rfl rfl 72 (tbA (fun _ _=>false)) ?_ (Tryz.iTbD _) (by rw[fE,fE]) (kD _) ?_;(exact (Row.new w2 (tbA (fun _ _=>false)) 72).raw);rw[World.setRow_alloc_new];have HR3:=hide (HR2.out.below (aD w2 (.cells (tbA T) 72)));have HT3:=hide (Row.new w2 (tbA T) 72);generalize w2.alloc (.cells (tbA T) 72)=w3 at *)|(refine xu rfl rfl ?_)|(go_at_call 43;refine AE.out.mono ?_;rintro e w2 ⟨rfl,hb2⟩;rw[HTE.out];have HR2:=hide (HR.out.below hb2);clear hb2))
   go_ret2
   have hfz:bF its=Zw7:=by rw[<-HAE.out,Hr.out,UW.out]
   exact ⟨ao',cc',by rw[hfz];rfl,by rw[hfz];exact ⟨iH Gp.out.own HB1.out.size,ak HB1.out Gp.out.b⟩⟩
theorem pR (s:ByteArray)(w:World)(hs:s.size<=maxLen):Calls Tryz.prog 18 #[.string s] w (zV w (Wd.aF s.data.toList)):=by
 cases hr:Wd.aF s.data.toList with
 | ok its =>
  refine (K3 s w its hs hr).mono ?_
  rintro e w' ⟨ao,cc,rfl,h⟩
  exact ⟨h.b,ao,cc,rfl,h.own⟩
 | error x =>
  refine (JK s w x hs hr).mono ?_
  rintro e w' ⟨rfl,hb⟩
  exact ⟨hb,rfl⟩
theorem Ng (s:ByteArray)(w:World)(x:Int×Int)(hs:s.size<=maxLen)(hread:Wd.aF s.data.toList=.error x) :
  Calls Tryz.prog 23 #[.string s] w fun e w'=>e=.returned (.tuple #[.slice none 0 0,.int .i64 x.1])/\Below w.heap.size w w':=by
 have hx:=Wd.jf hread
 have HX:=vg s w hs
 rw[hread] at HX
 have HXX:=hide HX
 clear HX hread
 go_enter Tryz.func23,Tryz.ntmps23
 go_wp2_with (go_at_call 41;refine HXX.out.mono ?_;rintro e w1 ⟨hb1,rfl⟩;have HB1:=hide hb1;clear hb1)
 go_ret2
 exact ⟨rfl,HB1.out⟩
theorem Ph (s:ByteArray)(w:World)(its:List Wd.It)(hs:s.size<=maxLen)(hread:Wd.aF s.data.toList=.ok its) :
  Calls Tryz.prog 23 #[.string s] w fun e w'=>∃ao cc,e=.returned (.tuple #[.slice ao (cO (bT its) 6).length cc,.int .i64 0])/\EdI w w' (.slice ao (cO (bT its) 6).length cc) (cO (bT its) 6):=by
 have HX:=vg s w hs
 rw[hread] at HX
 have HXX:=hide HX
 clear HX hread
 obtain ⟨F,hF⟩:∃F,bT its=F:=⟨_,rfl⟩
 have HTE:=hide hF
 rw[hF]
 clear hF
 obtain ⟨i0,hj0,hz0,hz1,hz2⟩:=info_parts Tryz.infoEd
 go_enter Tryz.func23,Tryz.ntmps23
 go_wp2_with (first|(refine wpList_store_row rfl 72 _ _ rfl w2.heap.size (tbA F) rfl rfl 72 (tbA (fun _ _=>false)) ?_ (Tryz.iTbD _) (by rw[fE,fE]) (kD _) ?_;(exact (Row.new w2 (tbA (fun _ _=>false)) 72).raw);rw[World.setRow_alloc_new];have HB3:=hide (aL HB2.out (.cells (tbA F) 72));have HT3:=hide (Row.new w2 (tbA F) 72);have hgt:w.heap.size<=w2.heap.size:=HB2.out.size;generalize w2.alloc (.cells (tbA F) 72)=w3 at *;generalize w2.heap.size=gt at *)|(refine xu rfl rfl ?_)|(go_at_call 43;refine AE.out.mono ?_;rintro e w2 ⟨rfl,hb2⟩;rw[HTE.out];have HB2:=hide (ak HB1.out hb2);clear hb2)|(go_at_call 41;refine HXX.out.mono ?_;rintro e w1 ⟨hb1,ia,ic,da,dc,D,rfl,hdk⟩;have HB1:=hide hb1;have AE:=hide (DF w1 its ia da ic dc D hdk);clear hb1 hdk))
 go_loopw [8,9] (fun a c wr=>∃l:Nat,l<=6/\c=.int .i64 l/\Row wr gt (tbA F) 72/\wr.ownsRow (gt+1) 51 2 a (cO F l).length ((cO F l).flatMap edV)/\Below w.heap.size w wr) (fun _ c _=>6-(intOf c).toNat)
 case atStart=>exact ⟨0,by omega,rfl,HT3.out,World.ownsRow_nil _ _ _ _,HB3.out⟩
 case round =>
  clear HT3 HB3
  obtain ⟨l,hl,rfl,h1,h2,h3⟩:=hrel
  have H1:=hide h1
  have H2:=hide h2
  have H3:=hide h3
  clear h1 h2 h3
  obtain ⟨ao,cc,hv⟩:=bq H2.out
  subst hv
  by_cases hlt:l<6
  ·have hl0:(0:Int)<=(l:Int):=by omega
   have hlI:(l:Int)<6:=by omega
   have Ua:=yQ F l
   go_wp2
   go_loopw [8,10] (fun a c wr=>∃(m:Nat) (X:List (Int×Int)),m<=6/\c=.int .i64 m/\X=cO F l++jF F l m/\Row wr gt (tbA F) 72/\wr.ownsRow (gt+1) 51 2 a X.length (X.flatMap edV)/\Below w.heap.size w wr) (fun _ c _=>6-(intOf c).toNat)
   case atStart=>exact ⟨0,_,by omega,rfl,rfl,H1.out,by rw[Cc,List.append_nil];exact H2.out,H3.out⟩
   case round =>
    clear H1 H2 H3
    obtain ⟨m,X,hm,rfl,hX,h1,h2,h3⟩:=hrel
    have H1:=hide h1
    have H2:=hide h2
    have H3:=hide h3
    have HX:=hide hX
    clear h1 h2 h3 hX
    obtain ⟨ao,cc,hv⟩:=bq H2.out
    subst hv
    have hlt1:=H1.out.lt
    by_cases hmt:m<6
    ·have hm0:(0:Int)<=(m:Int):=by omega
     have hlen:=xK F l m
     have hlen1:X.length<=50:=by rw[HX.out,List.length_append];omega
     have c1:wr.cell? ⟨gt,l*6+m,none⟩=some (.bool (F l m)):=H1.out.cell _ (jT _ _ _ hlt hmt)
     have dH:=hide (CQ F l m)
     have hno:=hide (Dy F l m)
     generalize F l m=o at *
     cases o
     ·go_wp2
      go_round
      case measure=>simp[intOf];omega
      case rel=>exact ⟨m+1,X,by omega,by go_num,by rw[hno.out (by first|rfl|trivial)];exact HX.out,H1.out,H2.out,H3.out⟩
     ·go_wp2_with (first|(at_builtin;refine gP (f:=edV) wB rfl _ _ 46 rfl (gt+1) 51 i0 _ 16 Tryz.underlying46 hj0 hz0 hz1 hz2 rfl (by decide) _ X (((l:Nat):Int),((m:Nat):Int)) rfl ⟨_,0,none⟩ rfl ?_ ?_ ?_ ?_ ?_ ?_ ?_;(exact H2.out.alloc _);(exact eZ _ _ _);(intro x hx;simp[edV] at hx;rcases hx with rfl|rfl<;>rfl);(unfold maxLen;omega);(omega);(simp;omega);intro ao' cc' w5 hown' aT bn hat';have UX:=hide hown';have Gr:=hide aT;clear hown' aT bn hat'))
      go_round
      case measure=>simp[intOf];omega
      case rel=>exact ⟨m+1,_,by omega,by go_num,by rw[dH.out (by first|rfl|trivial),<-List.append_assoc,<-HX.out],H1.out.same (by rw[Gr.out.block _ (by omega),heap_alloc_old _ _ hlt1]),UX.out,(H3.out.alloc H3.out.size _).trans (Gr.out.mono (by omega))⟩
    ·have e:m=6:=by omega
     subst e
     go_wp2
     go_round
     case measure=>simp[intOf];omega
     case rel=>exact ⟨l+1,by omega,by go_num,H1.out,by rw[yt,<-HX.out];exact H2.out,H3.out⟩
  ·have e:l=6:=by omega
   subst e
   go_wp2
   go_ret2
   exact ⟨ao,cc,rfl,iH H2.out (by omega),H3.out⟩
theorem DI (s:ByteArray)(w:World)(hs:s.size<=maxLen):Calls Tryz.prog 23 #[.string s] w (EPost w (Wd.aF s.data.toList)):=by
 cases hr:Wd.aF s.data.toList with
 | ok its =>
  refine (Ph s w its hs hr).mono ?_
  rintro e w' ⟨ao,cc,rfl,h⟩
  exact ⟨h.b,ao,cc,rfl,h.own⟩
 | error x =>
  refine (Ng s w x hs hr).mono ?_
  rintro e w' ⟨rfl,hb⟩
  exact ⟨hb,rfl⟩
end
section
open Mc
theorem Cf (s:ByteArray)(w:World)(hs:s.size<=maxLen):Calls Tryz.prog 19 #[.string s] w (zV w (Wd.aF s.data.toList)):=by
 have HX:=JJ s w hs
 cases hq:Wd.aF s.data.toList with
 | error x =>
  rw[hq] at HX
  have HXX:=hide HX
  clear HX hq
  go_enter Tryz.func19,Tryz.ntmps19
  go_wp2_with (go_at_call 46;refine HXX.out.mono ?_;rintro e w' ⟨hb,rfl⟩)
  go_ret2
  exact ⟨hb,rfl⟩
 | ok its =>
  rw[hq] at HX
  have HXX:=hide HX
  clear HX hq
  go_enter Tryz.func19,Tryz.ntmps19
  go_wp2_with (go_at_call 46;refine HXX.out.mono ?_;rintro e w' ⟨hb,ao,cc,rfl,hown⟩)
  go_ret2
  exact ⟨hb,ao,cc,rfl,hown⟩
theorem DJ (s:ByteArray)(w:World)(hs:s.size<=maxLen):Calls Tryz.prog 24 #[.string s] w (EPost w (Wd.aF s.data.toList)):=by
 have HX:=M9 s w hs
 cases hq:Wd.aF s.data.toList with
 | error x =>
  rw[hq] at HX
  have HXX:=hide HX
  clear HX hq
  go_enter Tryz.func24,Tryz.ntmps24
  go_wp2_with (go_at_call 50;refine HXX.out.mono ?_;rintro e w' ⟨hb,rfl⟩)
  go_ret2
  exact ⟨hb,rfl⟩
 | ok its =>
  rw[hq] at HX
  have HXX:=hide HX
  clear HX hq
  go_enter Tryz.func24,Tryz.ntmps24
  go_wp2_with (go_at_call 50;refine HXX.out.mono ?_;rintro e w' ⟨hb,ao,cc,rfl,hown⟩)
  go_ret2
  exact ⟨hb,ao,cc,rfl,hown⟩
end
section
open Mc
theorem qY (R:List Rp)(v1 v2:Value)(w:World)(b1 b2:Nat)(hl:R.length<=100000)(h1:w.ownsRow b1 23 3 v1 R.length (R.flatMap rpV))(h2:w.ownsRow b2 23 3 v2 R.length (R.flatMap rpV)) :
  Calls Tryz.prog 20 #[v1,v2] w fun e w'=>e=.returned (.bool true)/\Below w.heap.size w w':=by
 have HO1:=hide h1
 have HO2:=hide h2
 obtain ⟨ao,eH,rfl⟩:=bq h1
 obtain ⟨bo,cap2,rfl⟩:=bq h2
 clear h1 h2
 have hne:(((R.length:Nat):Int) != ((R.length:Nat):Int))=false:=by simp
 go_enter Tryz.func20,Tryz.ntmps20
 go_wp2
 go_loopw [5] (fun a wr=>∃k:Nat,k<=R.length/\a=.int .i64 k/\Below w.heap.size w wr) (fun a _=>R.length-(intOf a).toNat)
 case atStart=>exact ⟨0,Nat.zero_le _,rfl,Below.refl _ _⟩
 case round =>
  obtain ⟨k,hk,rfl,hbe⟩:=hrel
  have HB:=hide hbe
  clear hbe
  by_cases hlt:k<R.length
  ·obtain ⟨g1,c1,hv1,_,hg1,_,_,hr1⟩:=fI iY HO1.out (List.getElem?_eq_getElem hlt)
   obtain ⟨g2,c2,hv2,_,hg2,_,_,hr2⟩:=fI iY HO2.out (List.getElem?_eq_getElem hlt)
   cases hv1
   cases hv2
   have d0:=(HB.out.cell (p:=⟨g1,k*3,none⟩) hg1).trans (hr1 0 _ rfl)
   have e0:=(HB.out.cell (p:=⟨g2,k*3,none⟩) hg2).trans (hr2 0 _ rfl)
   have d1:=(HB.out.cell (p:=⟨g1,k*3+1,none⟩) hg1).trans (hr1 1 _ rfl)
   have e1:=(HB.out.cell (p:=⟨g2,k*3+1,none⟩) hg2).trans (hr2 1 _ rfl)
   have d2:=(HB.out.cell (p:=⟨g1,k*3+2,none⟩) hg1).trans (hr1 2 _ rfl)
   have e2:=(HB.out.cell (p:=⟨g2,k*3+2,none⟩) hg2).trans (hr2 2 _ rfl)
   clear hr1 hr2
   generalize R[k]=r at *
   have b0:((r.1) != (r.1))=false:=by simp
   have b1:((r.2.1) != (r.2.1))=false:=by simp
   have b2:((r.2.2) != (r.2.2))=false:=by simp
   have hki:(k:Int)<(R.length:Int):=by omega
   have hk0:(0:Int)<=(k:Int):=by omega
   go_wp2_with fail
   go_quiet (fail)
   go_wp2
   exact ⟨⟨k+1,by omega,by go_num,below_drewN HB.out _⟩,by simp[intOf];omega⟩
  ·go_wp2
   go_ret
   exact ⟨rfl,HB.out⟩
theorem q9 (R:List (Int×Int))(v1 v2:Value)(w:World)(b1 b2:Nat)(hl:R.length<=100000)(h1:w.ownsRow b1 51 2 v1 R.length (R.flatMap edV))(h2:w.ownsRow b2 51 2 v2 R.length (R.flatMap edV)) :
  Calls Tryz.prog 25 #[v1,v2] w fun e w'=>e=.returned (.bool true)/\Below w.heap.size w w':=by
 have HO1:=hide h1
 have HO2:=hide h2
 obtain ⟨ao,eH,rfl⟩:=bq h1
 obtain ⟨bo,cap2,rfl⟩:=bq h2
 clear h1 h2
 have hne:(((R.length:Nat):Int) != ((R.length:Nat):Int))=false:=by simp
 go_enter Tryz.func25,Tryz.ntmps25
 go_wp2
 go_loopw [5] (fun a wr=>∃k:Nat,k<=R.length/\a=.int .i64 k/\Below w.heap.size w wr) (fun a _=>R.length-(intOf a).toNat)
 case atStart=>exact ⟨0,Nat.zero_le _,rfl,Below.refl _ _⟩
 case round =>
  obtain ⟨k,hk,rfl,hbe⟩:=hrel
  have HB:=hide hbe
  clear hbe
  by_cases hlt:k<R.length
  ·obtain ⟨g1,c1,hv1,_,hg1,_,_,hr1⟩:=fI wB HO1.out (List.getElem?_eq_getElem hlt)
   obtain ⟨g2,c2,hv2,_,hg2,_,_,hr2⟩:=fI wB HO2.out (List.getElem?_eq_getElem hlt)
   cases hv1
   cases hv2
   have d0:=(HB.out.cell (p:=⟨g1,k*2,none⟩) hg1).trans (hr1 0 _ rfl)
   have e0:=(HB.out.cell (p:=⟨g2,k*2,none⟩) hg2).trans (hr2 0 _ rfl)
   have d1:=(HB.out.cell (p:=⟨g1,k*2+1,none⟩) hg1).trans (hr1 1 _ rfl)
   have e1:=(HB.out.cell (p:=⟨g2,k*2+1,none⟩) hg2).trans (hr2 1 _ rfl)
   clear hr1 hr2
   generalize R[k]=r at *
   have b0:((r.1) != (r.1))=false:=by simp
   have b1:((r.2) != (r.2))=false:=by simp
   have hki:(k:Int)<(R.length:Int):=by omega
   have hk0:(0:Int)<=(k:Int):=by omega
   go_wp2_with fail
   go_quiet (fail)
   go_wp2
   exact ⟨⟨k+1,by omega,by go_num,below_drewN HB.out _⟩,by simp[intOf];omega⟩
  ·go_wp2
   go_ret
   exact ⟨rfl,HB.out⟩
end
section
open Go.ChangeShapes Go.WideShapes Go.ChangeAt Go.RowKit
open Go.ChangeMaps (open_string shut_string)
open Mc
theorem AZ {w w':World}{base:Nat}{e:TypeId}{size:Nat}{v:Value}{n:Nat}{xs:List Value}(h:w.ownsRow base e size v n xs)(g:Nat)(hb:∀b,b≠g->w'.heap[b]?=w.heap[b]?)(hv:v.ownBlock≠some g):w'.ownsRow base e size v n xs:=by
 obtain ⟨a1,a2⟩:=h
 refine ⟨a1,?_⟩
 rcases a2 with a2 | ⟨g',cap,cur,hv',hg,hh,r⟩
 ·exact .inl a2
 ·refine .inr ⟨g',cap,cur,hv',hg,?_,r⟩
  rw[hb g' (fun e=>hv (by rw[hv',e];rfl))];exact hh
theorem K4 (its:List Wd.It)(hf:bH its):(bF its).length<=30000:=by
 have a1:=rH (eU its) (dX its) its.length 5 (fun i hi=>by have:=hf.short i hi;unfold dX;omega)
 rw[Eu its hf] at a1
 have a2:=qf (fwK (bT its) 6) 6
 have a3:(jW its).length<=4:=by rw[<-yR its hf];exact qg _ 4
 have a4:5*(its.length*301)<=5*(8*301):=Nat.mul_le_mul (by omega) (Nat.mul_le_mul_right _ hf.len)
 unfold bF
 rw[List.length_append,List.length_append]
 omega
theorem Nh (s:ByteArray)(hs:s.size<=maxLen)(w:World)(x:Int×Int)(hx:Wd.aF s.data.toList=.error x)(hne:x.1≠0) :
  Calls Tryz.prog 8 #[.string s] w fun e w'=>e=.returned (.bool true)/\Below w.heap.size w w':=by
 have H1:=fun w=>pR s w hs
 have H2:=fun w=>Cf s w hs
 rw[hx] at H1 H2
 have HH1:=hide H1
 have HH2:=hide H2
 clear H1 H2 hx
 obtain ⟨a,b⟩:=x
 simp only at hne
 have n1:(a != a)=false:=by simp
 have n2:(a != 0)=true:=by rw[bne_iff_ne];exact hne
 have n3:(a==a)=true:=by simp
 clear hne
 go_enter Tryz.func8,Tryz.ntmps8
 go_wp2_with fail
 refine (HH1.out _).mono ?_
 rintro e w1 ⟨hb1,rfl⟩
 have HB1:=hide hb1
 clear hb1
 go_wp2_with fail
 refine (HH2.out _).mono ?_
 rintro e w2 ⟨hb2,rfl⟩
 have HB2:=hide (HB1.out.trans (hb2.mono HB1.out.size))
 clear hb2
 go_wp2_with fail
 refine (HH2.out _).mono ?_
 rintro e w3 ⟨hb3,rfl⟩
 have HB3:=hide (HB2.out.trans (hb3.mono HB2.out.size))
 clear hb3
 go_wp2_with fail
 refine (qY [] _ _ _ 0 0 (by simp) (World.ownsRow_nil _ _ _ _) (World.ownsRow_nil _ _ _ _)).mono ?_
 rintro e w4 ⟨rfl,hb4⟩
 have HB4:=hide (HB3.out.trans (hb4.mono HB3.out.size))
 clear hb4
 go_wp2_with fail
 go_loop [10] (fun i=>i=.int .i64 0) (fun _=>0)
 case atStart=>exact rfl
 case round =>
  subst hrel
  go_wp2_with fail
  refine (qY [] _ _ _ 0 0 (by simp) (World.ownsRow_nil _ _ _ _) (World.ownsRow_nil _ _ _ _)).mono ?_
  rintro e w5 ⟨rfl,hb5⟩
  have HB5:=hide (HB4.out.trans (hb5.mono HB4.out.size))
  clear hb5
  go_wp2_with fail
  go_ret
  exact ⟨rfl,HB5.out⟩
theorem Ni (s:ByteArray)(hs:s.size<=maxLen)(w:World)(its:List Wd.It)(hx:Wd.aF s.data.toList=.ok its) :
  Calls Tryz.prog 8 #[.string s] w fun e w'=>e=.returned (.bool true)/\Below w.heap.size w w':=by
 have H1:=fun w=>pR s w hs
 have H2:=fun w=>Cf s w hs
 rw[hx] at H1 H2
 have hlen:(bF its).length<=30000:=K4 its (jP hx)
 have HH1:Hid (∀w,Calls Tryz.prog 18 #[.string s] w fun e w'=>Below w.heap.size w w'/\∃ao cc,e=.returned (.tuple #[.slice ao (bF its).length cc,.int .i64 0])/\w'.ownsRow w.heap.size 23 3 (.slice ao (bF its).length cc) (bF its).length ((bF its).flatMap rpV)):=hide H1
 have HH2:Hid (∀w,Calls Tryz.prog 19 #[.string s] w fun e w'=>Below w.heap.size w w'/\∃ao cc,e=.returned (.tuple #[.slice ao (bF its).length cc,.int .i64 0])/\w'.ownsRow w.heap.size 23 3 (.slice ao (bF its).length cc) (bF its).length ((bF its).flatMap rpV)):=hide H2
 clear H1 H2 hx
 generalize bF its=R at *
 go_enter Tryz.func8,Tryz.ntmps8
 go_wp2_with fail
 refine (HH1.out _).mono ?_
 rintro e w1 ⟨hb1,a0,c0,rfl,ho0⟩
 have HB1:=hide hb1
 have HO0:=hide ho0
 clear hb1 ho0
 go_wp2_with fail
 refine (HH2.out _).mono ?_
 rintro e w2 ⟨hb2,a1,eH,rfl,ho1⟩
 have HB2:=hide (HB1.out.trans (hb2.mono HB1.out.size))
 have sJ:=hide (own_below HO0.out hb2)
 have HO1:=hide ho1
 have HS2:Hid (w1.heap.size<=w2.heap.size):=hb2.size
 clear hb2 ho1
 go_wp2_with fail
 refine (HH2.out _).mono ?_
 rintro e w3 ⟨hb3,a2,cap2,rfl,ho2⟩
 have HB3:=hide (HB2.out.trans (hb3.mono HB2.out.size))
 have nN:=hide (own_below sJ.out hb3)
 have nO:=hide (own_below HO1.out hb3)
 have HO2:=hide ho2
 clear hb3 ho2
 go_wp2_with fail
 refine (qY R _ _ _ _ _ (by omega) nO.out nN.out).mono ?_
 rintro e w4 ⟨rfl,hb4⟩
 have HB4:=hide (HB3.out.trans (hb4.mono HB3.out.size))
 have oU:=hide (own_below nN.out hb4)
 have jw:=hide (own_below nO.out hb4)
 have oV:=hide (own_below HO2.out hb4)
 have tV:Hid (∀g,(Value.slice a1 R.length eH).ownBlock=some g->(Value.slice a0 R.length c0).ownBlock≠some g):=hide (fun g h1 h2=>by have:=(fQ HO0.out h2).2;have:=(fQ HO1.out h1).1;omega)
 have kW:Hid (∀g,(Value.slice a1 R.length eH).ownBlock=some g->(Value.slice a2 R.length cap2).ownBlock≠some g):=hide (fun g h1 h2=>by have:=(fQ HO2.out h2).1;have:=(fQ HO1.out h1).2;omega)
 have HWG:Hid (∀g,(Value.slice a1 R.length eH).ownBlock=some g->w.heap.size<=g):=hide (fun g h1=>by have:=HB1.out.size;have:=(fQ HO1.out h1).1;omega)
 clear hb4
 have HXL:Hid ((R.flatMap rpV).length=R.length*3):=jw.out.1
 go_wp2_with fail
 by_cases h0:R.length=0
 ·have hR:R=[]:=List.length_eq_zero_iff.1 h0
  subst hR
  go_loop [10] (fun i=>i=.int .i64 0) (fun _=>0)
  case atStart=>exact rfl
  case round =>
   subst hrel
   go_wp2_with fail
   refine (qY [] _ _ _ _ _ (by simp) oV.out oU.out).mono ?_
   rintro e w5 ⟨rfl,hb5⟩
   have HB5:=hide (HB4.out.trans (hb5.mono HB4.out.size))
   clear hb5
   go_wp2_with fail
   go_ret
   exact ⟨rfl,HB5.out⟩
 obtain ⟨g1,hg1⟩:∃g1,a1=some ⟨g1,0,none⟩:=by
  rcases jw.out.2 with ⟨e1,e2⟩ | ⟨g,cap,cur,e1,_⟩
  ·exact absurd e2 h0
  ·injection e1 with e1;exact ⟨g,e1⟩
 subst hg1
 have hg0:=tV.out g1 rfl
 have oQ:=kW.out g1 rfl
 have hwg:=HWG.out g1 rfl
 have hcp:eH<=maxLen/\R.length<=eH:=by
  rcases jw.out.2 with ⟨e1,e2⟩ | ⟨g,cap,cur,e1,_,_,e2,e3,_⟩
  ·exact absurd e2 h0
  ·injection e1 with _ _ e1;subst e1;exact ⟨e3,e2⟩
 have HG0:=hide hg0
 have Aw:=hide oQ
 unfold maxLen at hcp
 clear hg0 oQ tV kW HWG h0
 go_loopw [10] (fun a wr=>∃(k:Nat) (xs:List Value),k<=R.length/\a=.int .i64 k/\xs.length=R.length*3/\wr.ownsRow w1.heap.size 23 3 (.slice (some ⟨g1,0,none⟩) R.length eH) R.length xs/\(∀b,b≠g1->wr.heap[b]?=w4.heap[b]?)/\Below w.heap.size w wr) (fun a _=>R.length-(intOf a).toNat)
 case atStart=>exact ⟨0,R.flatMap rpV,Nat.zero_le _,rfl,HXL.out,jw.out,fun _ _=>rfl,HB4.out⟩
 case round =>
  obtain ⟨k,xs,hk,rfl,hxl,hO,hbl,hbe⟩:=hrel
  have HO:=hide hO
  have HBL:=hide hbl
  have HB:=hide hbe
  have qP:=hide hxl
  by_cases hlt:k<R.length
  ·have hx0:k*3<xs.length:=by omega
   have d0:=(HO.out.cellAt (k*3) (by omega)).trans (List.getElem?_eq_getElem hx0)
   have f0:=HO.out.frozenAt (k*3)
   generalize xs[k*3]=u0 at *
   have hx1:k*3+1<xs.length:=by omega
   have d1:=(HO.out.cellAt (k*3+1) (by omega)).trans (List.getElem?_eq_getElem hx1)
   have f1:=HO.out.frozenAt (k*3+1)
   generalize xs[k*3+1]=u1 at *
   have hx2:k*3+2<xs.length:=by omega
   have d2:=(HO.out.cellAt (k*3+2) (by omega)).trans (List.getElem?_eq_getElem hx2)
   have f2:=HO.out.frozenAt (k*3+2)
   generalize xs[k*3+2]=u2 at *
   clear hxl hO hbl hbe
   go_wp2_with fail
   refine ⟨⟨k+1,(((xs.set (k*3) (.int .i64 9)).set (k*3+1) (.int .i64 9)).set (k*3+2) (.int .i64 9)),by omega,by go_num,by simp[qP.out],(((HO.out.stored _ _).1.stored _ _).1.stored _ _).1,?_,(((HB.out.setCell (p:=⟨g1,k*3,none⟩) hwg _).setCell (p:=⟨g1,k*3+1,none⟩) hwg _).setCell (p:=⟨g1,k*3+2,none⟩) hwg _)⟩,by simp[intOf];omega⟩
   intro b hb
   rw[heap_setCell_other _ _ _ _ hb,heap_setCell_other _ _ _ _ hb,heap_setCell_other _ _ _ _ hb];exact HBL.out b hb
  ·clear hxl hO hbl hbe
   go_wp2_with fail
   refine (qY R _ _ _ _ _ (by omega) (AZ oV.out g1 HBL.out Aw.out) (AZ oU.out g1 HBL.out HG0.out)).mono ?_
   rintro e w5 ⟨rfl,hb5⟩
   have HB5:=hide (HB.out.trans (hb5.mono HB.out.size))
   clear hb5
   go_wp2_with fail
   go_ret
   exact ⟨rfl,HB5.out⟩
theorem JL (s:ByteArray)(hs:s.size<=maxLen)(w:World) :
  Calls Tryz.prog 8 #[.string s] w fun e w'=>e=.returned (.bool true)/\Below w.heap.size w w':=by
 cases hx:Wd.aF s.data.toList with
 | error x=>exact Nh s hs w x hx (Wd.jf hx)
 | ok its=>exact Ni s hs w its hx
end
end Go.Proofs.YtecmfdkhcffpmaaGreat
