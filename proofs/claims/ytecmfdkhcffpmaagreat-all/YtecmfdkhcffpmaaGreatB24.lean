/- PureS0, ProgA, ProgB. -/
import Derived.Test.YtecmfdkhcffpmaaGreatB23
import Derived.Test.YtecmfdkhcffpmaaGreatB14
import Derived.Test.YtecmfdkhcffpmaaGreatB08
namespace Go.Proofs.YtecmfdkhcffpmaaGreat
open Go.RowKit
set_option linter.unusedVariables false
set_option linter.unusedSimpArgs false
set_option linter.unusedSectionVars false
set_option maxHeartbeats 8000000
set_option maxRecDepth 100000
section
open Mc
def nTo (l:List Bool)(k:Nat):Nat:=(l.take k).foldl (fun n b=>2*n+b.toNat) 0
def hn (h:Nat):Nat:=nTo [h.testBit 0,h.testBit 1,h.testBit 2,h.testBit 3,h.testBit 4,h.testBit 5] 6
theorem nJ:∀h,h<64->hn h<64:=by decide
theorem Td:∀h,h<64->∀h',h'<64->hn h=hn h'->h=h':=by decide
theorem vS:∀h,h<64->∀h',h'<64->((hn h &&& hn h'=0)↔(h &&& h'=0)):=by decide
def sn (p h:Nat)(off:Bool):Nat:=p*128+2*hn h+off.toNat
theorem Te {p h p' h':Nat}{off off':Bool}(hh:h<64)(hh':h'<64)(e:sn p h off=sn p' h' off'):p=p'/\h=h'/\off=off':=by
 unfold sn at e
 have h1:=nJ h hh
 have h2:=nJ h' hh'
 have o1:off.toNat<=1:=Bool.toNat_le off
 have o2:off'.toNat<=1:=Bool.toNat_le off'
 have e1:p=p':=by omega
 have e2:hn h=hn h':=by omega
 have e3:off.toNat=off'.toNat:=by omega
 refine ⟨e1,Td h hh h' hh' e2,?_⟩
 cases off<;>cases off'<;>simp at e3<;>rfl
theorem zQ {p h n:Nat}{off:Bool}(hh:h<64)(hp:p<=n):sn p h off<(n+1)*128:=by
 unfold sn
 have h1:=nJ h hh
 have o1:off.toNat<=1:=Bool.toNat_le off
 omega
def jS (v:Int):Prop:=v=43\/v=45\/v=114\/v=119\/v=60\/v=62\/v=40\/v=91\/v=124\/v=93\/v=122\/v=41\/v=101
theorem jD {b:List UInt8}(hok:bG b){p:Nat}(h:atB b p=43\/atB b p=45):0<=num b p/\num b p<6:=by
 have hp:p<b.length:=kG (by rcases h with h|h<;>rw[h]<;>decide)
 simp only[atB,hp,if_true] at h
 obtain ⟨h1,h2,h3⟩:=(hok p hp).1 h
 rw[num,if_pos h1,if_pos h2];omega
end
section
open Mc
def kJ (l:List Nat):List Value:=l.map fun (i:Nat)=>Value.int .i64 (i:Int)
theorem zo {w:World}{base:Nat}{e:TypeId}{g n cap:Nat}{xs:List Value}(h:w.ownsRow base e 1 (.slice (some ⟨g,0,none⟩) (n+1) cap) (n+1) xs):w.ownsRow base e 1 (.slice (some ⟨g,0,none⟩) n cap) n (xs.take n):=by
 obtain ⟨h1,h2⟩:=h
 refine ⟨by simp;omega,?_⟩
 rcases h2 with ⟨h2,_⟩ | ⟨g',cap',cur,h2,hb,hg,hc,hm,hs,ht⟩
 ·cases h2
 ·cases h2
  refine .inr ⟨g,cap,cur,rfl,hb,hg,by omega,hm,hs,?_⟩
  rw[<-ht,List.take_take];congr 1;omega
theorem Oe {w:World}{base:Nat}{e:TypeId}{g n cap:Nat}{xs:List Value}{sz:Nat}(h:w.ownsRow base e sz (.slice (some ⟨g,0,none⟩) n cap) n xs):base<=g/\g<w.heap.size/\n<=cap/\cap<=maxLen:=by
 rcases h.2 with ⟨h2,_⟩ | ⟨g',cap',cur,h2,hb,hg,hc,hm,hs,ht⟩
 ·cases h2
 ·cases h2;exact ⟨hb,bB hg,hc,hm⟩
theorem oo {w:World}{base:Nat}{e:TypeId}{sz:Nat}{v:Value}{n:Nat}{xs:List Value}(h:w.ownsRow base e sz v n xs)(p:Addr)(hp:p.block<base)(u:Value):(w.setCell p u).ownsRow base e sz v n xs :=
 fO h fun g hg _=>heap_setCell_other w p g u (by omega)
theorem CB {i:Nat}{c:Int}{s:List Nat}{L:Nat->Nat}(h:c=40\/c=91):dD i c (s,L)=(i::s,L):=by
 unfold dD oC oI
 cases s with
 | nil=>simp only;rw[if_pos (by omega)]
 | cons q r=>simp only;rw[if_neg (show ¬(c=124\/c=41\/c=93) by omega),if_pos (by omega)]
theorem BZ {i:Nat}{c:Int}{q:Nat}{s:List Nat}{L:Nat->Nat}(h:c=41\/c=93):dD i c (q::s,L)=(s,fun x=>if x=i then q else if x=q then i+1 else L x):=by
 unfold dD oC oI
 simp only
 rw[if_pos (show c=124\/c=41\/c=93 by omega),if_neg (by omega)]
theorem BF {i:Nat}{c:Int}{L:Nat->Nat}(h:c=41\/c=93):dD i c ([],L)=([],L):=by
 unfold dD oC oI
 simp only
 rw[if_neg (by omega)]
theorem Mq {i:Nat}{q:Nat}{s:List Nat}{L:Nat->Nat}:dD i 124 (q::s,L)=(i::s,fun x=>if x=i then q else if x=q then i+1 else L x):=rfl
theorem KD {i:Nat}{L:Nat->Nat}:dD i 124 ([],L)=([i],L):=rfl
theorem Mr (s:ByteArray)(k:Nat)(z:Ld)(h:k<s.size):gK (s.data.toList.drop k) k z=gK (s.data.toList.drop (k+1)) (k+1) (dD k ((s[k].toNat:Nat):Int) z):=by
 rw[Wd.drop_cons s k h];rfl
theorem Og (s:ByteArray)(k:Nat)(z:Ld)(h:s.size<=k):gK (s.data.toList.drop k) k z=z:=by
 rw[List.drop_of_length_le (by rw[Wd.aI];exact h)];rfl
theorem KE {w:World}{H:Nat}(hH:w.heap.size=H)(v:Value)(t:TypeId):∀j u,[v][j]?=some u->(w.alloc (.cells #[v] t)).cell? ((⟨H,0,none⟩:Addr).add j)=some u:=by
 subst hH;exact cell_one_new _ _ _
theorem p9 (l:List Nat)(i:Nat):kJ (l++[i])=kJ l++[.int .i64 (i:Int)]:=by simp[kJ]
theorem yJ (q:Nat)(r:List Nat):(kJ (q::r).reverse).take r.length=kJ r.reverse:=by
 rw[List.reverse_cons,p9]
 rw[List.take_append_of_le_length (by simp[kJ]),List.take_of_length_le (by simp[kJ])]
theorem yo (q:Nat)(r:List Nat):(kJ (q::r).reverse)[r.length]?=some (.int .i64 (q:Int)):=by
 rw[List.reverse_cons,p9,List.getElem?_append_right (by simp[kJ])]
 simp[kJ]
theorem Blk.two {w:World}{N n:Nat}{L:Nat->Nat}{i q:Nat}(h:Blk w N n (fun x=>.int .i64 (L x:Int))):Blk ((w.setCell ⟨N,q,none⟩ (.int .i64 ((i:Int)+1))).setCell ⟨N,i,none⟩ (.int .i64 (q:Int))) N n (fun x=>.int .i64 (((fun x=>if x=i then q else if x=q then i+1 else L x) x:Nat):Int)):=by
 refine ((h.set q _).set i _).congr fun x _=>?_
 simp only
 by_cases e1:x=i
 ·simp[e1]
 ·by_cases e2:x=q
  ·simp[e1,e2]
   rw[if_neg (by rw[<-e2];exact e1),if_neg (by rw[<-e2];exact e1)];simp
  ·simp[e1,e2]
theorem KF (s:ByteArray)(w:World)(hs:s.size<=1000) :
  Calls Tryz.prog 115 #[.string s] w fun e w'=>∃g,e=.returned (.slice (some ⟨g,0,none⟩) s.size s.size)/\w.heap.size<=g/\Blk w' g s.size (fun i=>.int .i64 ((leads s.data.toList i:Nat):Int))/\Below w.heap.size w w':=by
 have hmk:=fun W=>zn W s.size (by omega)
 obtain ⟨i0,hi0,hz0,hz1,hz2⟩:=info_parts Tryz.infoInt
 go_enter Tryz.func115,Tryz.ntmps115
 go_wp2
 clear hmk
 go_loopw [4,5] (fun a b wr=>∃(k:Nat) (st:List Nat) (L:Nat->Nat) (g cap:Nat),k<=s.size/\b=.int .i64 k/\a=.slice (some ⟨g,0,none⟩) st.length cap/\st.length<=k/\wr.ownsRow (w.heap.size+1) 3 1 (.slice (some ⟨g,0,none⟩) st.length cap) st.length (kJ st.reverse)/\Blk wr w.heap.size s.size (fun i=>.int .i64 ((L i:Nat):Int))/\(∀q∈st,q<k)/\gK s.data.toList 0 ([],fun _=>0)=gK (s.data.toList.drop k) k (st,L)/\Below w.heap.size w wr) (fun _ b _=>s.size-(intOf b).toNat)
 case atStart =>
  refine ⟨0,[],fun _=>0,w.heap.size+1,0,by omega,rfl,rfl,by simp,⟨rfl,.inr ⟨w.heap.size+1,0,#[],rfl,by omega,heap_alloc2_new _ _ _,by simp,Nat.zero_le _,rfl,rfl⟩⟩,⟨_,_,heap_alloc2_old _ _ _,fun i hi=>?_⟩,by simp,by simp,((Below.refl _ _).alloc (Nat.le_refl _) _).alloc (by simp) _⟩
  rw[qZ _ _ _ hi]
  show some ((#[Value.int .i64 0])[i%1]!)=_
  rw[Nat.mod_one];rfl
 case round =>
  obtain ⟨k,st,L,g,cap,hk,rfl,rfl,hst,hown,hblk,hlt',hrun,hbe⟩:=hrel
  have HO:=hide hown
  have HBK:=hide hblk
  have HQ:=hide hlt'
  have HR:=hide hrun
  have HB:=hide hbe
  have HOB:=Oe hown
  have U7:cap<=2 ^ 63-1:=HOB.2.2.2
  clear hown hblk hlt' hrun hbe
  by_cases hlt:k<s.size
  ·have HS:=hide (fun z=>Mr s k z hlt)
   have b0:=Wd.iL s.data.toList k
   have b1:=Wd.iD s.data.toList k
   rw[<-Wd.dz s k hlt] at b0 b1
   by_cases hpl:((s[k].toNat:Nat):Int)≠40/\((s[k].toNat:Nat):Int)≠91/\((s[k].toNat:Nat):Int)≠124/\((s[k].toNat:Nat):Int)≠41/\((s[k].toNat:Nat):Int)≠93
   ·have HN:Hid (dD k ((s[k].toNat:Nat):Int) (st,L)=(st,L)):=BX k (st,L) hpl
    have n124:(((s[k].toNat:Nat):Int)==124)=false:=by simp;omega
    have n41:(((s[k].toNat:Nat):Int)==41)=false:=by simp;omega
    have n93:(((s[k].toNat:Nat):Int)==93)=false:=by simp;omega
    have n40:(((s[k].toNat:Nat):Int)==40)=false:=by simp;omega
    have n91:(((s[k].toNat:Nat):Int)==91)=false:=by simp;omega
    clear hpl
    go_wp2
    all_goals (refine ⟨⟨k+1,st,L,g,cap,by omega,by go_num,rfl,by omega,HO.out,HBK.out,fun q hq=>by have:=HQ.out q hq;omega,by rw[HR.out,HS.out,HN.out],HB.out⟩,by simp[intOf];omega⟩)
   by_cases hch:((s[k].toNat:Nat):Int)=40
   ·have HN:Hid (dD k ((s[k].toNat:Nat):Int) (st,L)=(k::st,L)):=CB (by omega)
    have n124:(((s[k].toNat:Nat):Int)==124)=false:=by rw[hch];rfl
    have n41:(((s[k].toNat:Nat):Int)==41)=false:=by rw[hch];rfl
    have n93:(((s[k].toNat:Nat):Int)==93)=false:=by rw[hch];rfl
    have n40:(((s[k].toNat:Nat):Int)==40)=true:=by rw[hch];rfl
    have n91:(((s[k].toNat:Nat):Int)==91)=false:=by rw[hch];rfl
    clear hch hpl
    go_wp2_with ((at_builtin;refine wpList_append_own _ rfl _ _ 55 rfl (w.heap.size+1) 3 i0 (.int .i64 0) 1 8 Tryz.underlying55 hi0 hz0 hz1 hz2 rfl (by decide) _ _ _ rfl (HO.out.alloc _) ⟨_,0,none⟩ 1 1 [.int .i64 (k:Int)] rfl rfl (cell_one_new _ _ _) (fun x hx=>by simp at hx;subst hx;rfl) (by unfold maxLen;omega) (by omega) (by first|(simp;omega)|(simp[World.setCell];omega)) ?_;intro v' w5 hown' dI fU;obtain ⟨g',cap',rfl⟩:=mG hown' (fun e=>by have h9:=(fU.1 e).1;cases h9);have HG:=hide dI;have HW:=hide hown';clear dI hown' fU))
    all_goals (
     refine ⟨⟨k+1,k::st,L,g',cap',by omega,by go_num,rfl,by first|omega|(simp;done)|(simp;omega),?_,?_,fun x hx=>?_,by rw[HR.out,HS.out,HN.out],?_⟩,by simp[intOf];omega⟩
     ·have:=HW.out
      rw[List.reverse_cons,p9];exact this
     ·refine HBK.out.same ?_
      rw[HG.out.block w.heap.size (by simp;omega) (fun e=>by have:=(HO.out.lt _ e.symm).1;omega),heap_alloc_old _ _ (by first|omega|(simp;omega)|(simp[World.setCell];omega))]
     ·simp only[List.mem_cons,List.not_mem_nil,or_false] at hx
      rcases hx with rfl|hx
      ·omega
      ·have:=HQ.out x hx;omega
     ·exact (HB.out.alloc HB.out.size _).grown HG.out (by have:=HB.out.size;simp;omega) (fun x hx=>by have:=(HO.out.lt x hx).1;omega))
   by_cases hch:((s[k].toNat:Nat):Int)=91
   ·have HN:Hid (dD k ((s[k].toNat:Nat):Int) (st,L)=(k::st,L)):=CB (by omega)
    have n124:(((s[k].toNat:Nat):Int)==124)=false:=by rw[hch];rfl
    have n41:(((s[k].toNat:Nat):Int)==41)=false:=by rw[hch];rfl
    have n93:(((s[k].toNat:Nat):Int)==93)=false:=by rw[hch];rfl
    have n40:(((s[k].toNat:Nat):Int)==40)=false:=by rw[hch];rfl
    have n91:(((s[k].toNat:Nat):Int)==91)=true:=by rw[hch];rfl
    clear hch hpl
    go_wp2_with ((at_builtin;refine wpList_append_own _ rfl _ _ 55 rfl (w.heap.size+1) 3 i0 (.int .i64 0) 1 8 Tryz.underlying55 hi0 hz0 hz1 hz2 rfl (by decide) _ _ _ rfl (HO.out.alloc _) ⟨_,0,none⟩ 1 1 [.int .i64 (k:Int)] rfl rfl (cell_one_new _ _ _) (fun x hx=>by simp at hx;subst hx;rfl) (by unfold maxLen;omega) (by omega) (by first|(simp;omega)|(simp[World.setCell];omega)) ?_;intro v' w5 hown' dI fU;obtain ⟨g',cap',rfl⟩:=mG hown' (fun e=>by have h9:=(fU.1 e).1;cases h9);have HG:=hide dI;have HW:=hide hown';clear dI hown' fU))
    all_goals (
     refine ⟨⟨k+1,k::st,L,g',cap',by omega,by go_num,rfl,by first|omega|(simp;done)|(simp;omega),?_,?_,fun x hx=>?_,by rw[HR.out,HS.out,HN.out],?_⟩,by simp[intOf];omega⟩
     ·have:=HW.out
      rw[List.reverse_cons,p9];exact this
     ·refine HBK.out.same ?_
      rw[HG.out.block w.heap.size (by simp;omega) (fun e=>by have:=(HO.out.lt _ e.symm).1;omega),heap_alloc_old _ _ (by first|omega|(simp;omega)|(simp[World.setCell];omega))]
     ·simp only[List.mem_cons,List.not_mem_nil,or_false] at hx
      rcases hx with rfl|hx
      ·omega
      ·have:=HQ.out x hx;omega
     ·exact (HB.out.alloc HB.out.size _).grown HG.out (by have:=HB.out.size;simp;omega) (fun x hx=>by have:=(HO.out.lt x hx).1;omega))
   by_cases hch:((s[k].toNat:Nat):Int)=41
   ·cases st with
    | nil =>
     have HN:Hid (dD k ((s[k].toNat:Nat):Int) ([],L)=([],L)):=BF (by omega)
     have n124:(((s[k].toNat:Nat):Int)==124)=false:=by rw[hch];rfl
     have n41:(((s[k].toNat:Nat):Int)==41)=true:=by rw[hch];rfl
     have n93:(((s[k].toNat:Nat):Int)==93)=false:=by rw[hch];rfl
     have n40:(((s[k].toNat:Nat):Int)==40)=false:=by rw[hch];rfl
     have n91:(((s[k].toNat:Nat):Int)==91)=false:=by rw[hch];rfl
     clear hch hpl
     go_wp2
     all_goals (refine ⟨⟨k+1,[],L,g,cap,by omega,by go_num,rfl,by simp,HO.out,HBK.out,by simp,by rw[HR.out,HS.out,HN.out],HB.out⟩,by simp[intOf];omega⟩)
    | cons q r =>
     have HN:Hid (dD k ((s[k].toNat:Nat):Int) (q::r,L)=(r,fun x=>if x=k then q else if x=q then k+1 else L x)):=BZ (by omega)
     have hrl:r.length+1<=k:=hst
     have hrl:r.length+1<=k:=hst
     have qk:q<k:=HQ.out q (by simp)
     have r1:wr.cell? ⟨g,r.length,none⟩=some (.int .i64 (q:Int)):=by
      have:=HO.out.cells (g:=g) rfl r.length _ (yo q r)
      rw[Addr.add_mid,Nat.zero_add] at this;exact this
     have hwl:IntKind.i64.wrap (((r.length+1:Nat):Int)-1)=(r.length:Int):=by rw[IntKind.wrap_i64];omega
     have p1:wr.cell? ⟨w.heap.size,q,none⟩=some (.int .i64 ((L q:Nat):Int)):=HBK.out.cell q (by omega)
     have p2:wr.cell? ⟨w.heap.size,k,none⟩=some (.int .i64 ((L k:Nat):Int)):=HBK.out.cell k (by omega)
     have p3:=HBK.out.frozen q
     have p4:=HBK.out.frozen k
     have hqk:q≠k:=by omega
     have HO2:=hide (oo (oo (zo HO.out) ⟨w.heap.size,q,none⟩ (by simp) (.int .i64 ((k:Int)+1))) ⟨w.heap.size,k,none⟩ (by simp) (.int .i64 (q:Int)))
     rw[yJ] at HO2
     have sN:=hide (HBK.out.two (i:=k) (q:=q))
     have HB2:=hide ((HB.out.setCell (p:=⟨w.heap.size,q,none⟩) (Nat.le_refl _) (.int .i64 ((k:Int)+1))).setCell (p:=⟨w.heap.size,k,none⟩) (Nat.le_refl _) (.int .i64 (q:Int)))
     have n124:(((s[k].toNat:Nat):Int)==124)=false:=by rw[hch];rfl
     have n41:(((s[k].toNat:Nat):Int)==41)=true:=by rw[hch];rfl
     have n93:(((s[k].toNat:Nat):Int)==93)=false:=by rw[hch];rfl
     have n40:(((s[k].toNat:Nat):Int)==40)=false:=by rw[hch];rfl
     have n91:(((s[k].toNat:Nat):Int)==91)=false:=by rw[hch];rfl
     simp only[List.length_cons] at hst HOB ⊢
     clear hch hpl
     go_wp2
     all_goals (refine ⟨⟨k+1,r,fun x=>if x=k then q else if x=q then k+1 else L x,g,cap,by omega,by go_num,rfl,by omega,HO2.out,sN.out,fun x hx=>by have:=HQ.out x (by simp[hx]);omega,by rw[HR.out,HS.out,HN.out],HB2.out⟩,by simp[intOf];omega⟩)
   by_cases hch:((s[k].toNat:Nat):Int)=93
   ·cases st with
    | nil =>
     have HN:Hid (dD k ((s[k].toNat:Nat):Int) ([],L)=([],L)):=BF (by omega)
     have n124:(((s[k].toNat:Nat):Int)==124)=false:=by rw[hch];rfl
     have n41:(((s[k].toNat:Nat):Int)==41)=false:=by rw[hch];rfl
     have n93:(((s[k].toNat:Nat):Int)==93)=true:=by rw[hch];rfl
     have n40:(((s[k].toNat:Nat):Int)==40)=false:=by rw[hch];rfl
     have n91:(((s[k].toNat:Nat):Int)==91)=false:=by rw[hch];rfl
     clear hch hpl
     go_wp2
     all_goals (refine ⟨⟨k+1,[],L,g,cap,by omega,by go_num,rfl,by simp,HO.out,HBK.out,by simp,by rw[HR.out,HS.out,HN.out],HB.out⟩,by simp[intOf];omega⟩)
    | cons q r =>
     have HN:Hid (dD k ((s[k].toNat:Nat):Int) (q::r,L)=(r,fun x=>if x=k then q else if x=q then k+1 else L x)):=BZ (by omega)
     have hrl:r.length+1<=k:=hst
     have hrl:r.length+1<=k:=hst
     have qk:q<k:=HQ.out q (by simp)
     have r1:wr.cell? ⟨g,r.length,none⟩=some (.int .i64 (q:Int)):=by
      have:=HO.out.cells (g:=g) rfl r.length _ (yo q r)
      rw[Addr.add_mid,Nat.zero_add] at this;exact this
     have hwl:IntKind.i64.wrap (((r.length+1:Nat):Int)-1)=(r.length:Int):=by rw[IntKind.wrap_i64];omega
     have p1:wr.cell? ⟨w.heap.size,q,none⟩=some (.int .i64 ((L q:Nat):Int)):=HBK.out.cell q (by omega)
     have p2:wr.cell? ⟨w.heap.size,k,none⟩=some (.int .i64 ((L k:Nat):Int)):=HBK.out.cell k (by omega)
     have p3:=HBK.out.frozen q
     have p4:=HBK.out.frozen k
     have hqk:q≠k:=by omega
     have HO2:=hide (oo (oo (zo HO.out) ⟨w.heap.size,q,none⟩ (by simp) (.int .i64 ((k:Int)+1))) ⟨w.heap.size,k,none⟩ (by simp) (.int .i64 (q:Int)))
     rw[yJ] at HO2
     have sN:=hide (HBK.out.two (i:=k) (q:=q))
     have HB2:=hide ((HB.out.setCell (p:=⟨w.heap.size,q,none⟩) (Nat.le_refl _) (.int .i64 ((k:Int)+1))).setCell (p:=⟨w.heap.size,k,none⟩) (Nat.le_refl _) (.int .i64 (q:Int)))
     have n124:(((s[k].toNat:Nat):Int)==124)=false:=by rw[hch];rfl
     have n41:(((s[k].toNat:Nat):Int)==41)=false:=by rw[hch];rfl
     have n93:(((s[k].toNat:Nat):Int)==93)=true:=by rw[hch];rfl
     have n40:(((s[k].toNat:Nat):Int)==40)=false:=by rw[hch];rfl
     have n91:(((s[k].toNat:Nat):Int)==91)=false:=by rw[hch];rfl
     simp only[List.length_cons] at hst HOB ⊢
     clear hch hpl
     go_wp2
     all_goals (refine ⟨⟨k+1,r,fun x=>if x=k then q else if x=q then k+1 else L x,g,cap,by omega,by go_num,rfl,by omega,HO2.out,sN.out,fun x hx=>by have:=HQ.out x (by simp[hx]);omega,by rw[HR.out,HS.out,HN.out],HB2.out⟩,by simp[intOf];omega⟩)
   by_cases hch:((s[k].toNat:Nat):Int)=124
   ·cases st with
    | nil =>
     have HN:Hid (dD k ((s[k].toNat:Nat):Int) ([],L)=([k],L)):=by rw[hch];exact KD
     have n124:(((s[k].toNat:Nat):Int)==124)=true:=by rw[hch];rfl
     have n41:(((s[k].toNat:Nat):Int)==41)=false:=by rw[hch];rfl
     have n93:(((s[k].toNat:Nat):Int)==93)=false:=by rw[hch];rfl
     have n40:(((s[k].toNat:Nat):Int)==40)=false:=by rw[hch];rfl
     have n91:(((s[k].toNat:Nat):Int)==91)=false:=by rw[hch];rfl
     clear hch hpl
     go_wp2_with ((at_builtin;refine wpList_append_own _ rfl _ _ 55 rfl (w.heap.size+1) 3 i0 (.int .i64 0) 1 8 Tryz.underlying55 hi0 hz0 hz1 hz2 rfl (by decide) _ _ _ rfl (HO.out.alloc _) ⟨_,0,none⟩ 1 1 [.int .i64 (k:Int)] rfl rfl (cell_one_new _ _ _) (fun x hx=>by simp at hx;subst hx;rfl) (by unfold maxLen;omega) (by omega) (by first|(simp;omega)|(simp[World.setCell];omega)) ?_;intro v' w5 hown' dI fU;obtain ⟨g',cap',rfl⟩:=mG hown' (fun e=>by have h9:=(fU.1 e).1;cases h9);have HG:=hide dI;have HW:=hide hown';clear dI hown' fU))
     all_goals (
      refine ⟨⟨k+1,[k],L,g',cap',by omega,by go_num,rfl,by first|omega|(simp;done)|(simp;omega),?_,?_,fun x hx=>?_,by rw[HR.out,HS.out,HN.out],?_⟩,by simp[intOf];omega⟩
      ·have:=HW.out
       rw[List.reverse_cons,p9];exact this
      ·refine HBK.out.same ?_
       rw[HG.out.block w.heap.size (by simp;omega) (fun e=>by have:=(HO.out.lt _ e.symm).1;omega),heap_alloc_old _ _ (by first|omega|(simp;omega)|(simp[World.setCell];omega))]
      ·simp only[List.mem_cons,List.not_mem_nil,or_false] at hx
       omega
      ·exact (HB.out.alloc HB.out.size _).grown HG.out (by have:=HB.out.size;simp;omega) (fun x hx=>by have:=(HO.out.lt x hx).1;omega))
    | cons q r =>
     have HN:Hid (dD k ((s[k].toNat:Nat):Int) (q::r,L)=(k::r,fun x=>if x=k then q else if x=q then k+1 else L x)):=by rw[hch];exact Mq
     have hrl:r.length+1<=k:=hst
     have hrl:r.length+1<=k:=hst
     have qk:q<k:=HQ.out q (by simp)
     have r1:wr.cell? ⟨g,r.length,none⟩=some (.int .i64 (q:Int)):=by
      have:=HO.out.cells (g:=g) rfl r.length _ (yo q r)
      rw[Addr.add_mid,Nat.zero_add] at this;exact this
     have hwl:IntKind.i64.wrap (((r.length+1:Nat):Int)-1)=(r.length:Int):=by rw[IntKind.wrap_i64];omega
     have p1:wr.cell? ⟨w.heap.size,q,none⟩=some (.int .i64 ((L q:Nat):Int)):=HBK.out.cell q (by omega)
     have p2:wr.cell? ⟨w.heap.size,k,none⟩=some (.int .i64 ((L k:Nat):Int)):=HBK.out.cell k (by omega)
     have p3:=HBK.out.frozen q
     have p4:=HBK.out.frozen k
     have hqk:q≠k:=by omega
     have HO2:=hide (oo (oo (zo HO.out) ⟨w.heap.size,q,none⟩ (by simp) (.int .i64 ((k:Int)+1))) ⟨w.heap.size,k,none⟩ (by simp) (.int .i64 (q:Int)))
     rw[yJ] at HO2
     have sN:=hide (HBK.out.two (i:=k) (q:=q))
     have HB2:=hide ((HB.out.setCell (p:=⟨w.heap.size,q,none⟩) (Nat.le_refl _) (.int .i64 ((k:Int)+1))).setCell (p:=⟨w.heap.size,k,none⟩) (Nat.le_refl _) (.int .i64 (q:Int)))
     have n124:(((s[k].toNat:Nat):Int)==124)=true:=by rw[hch];rfl
     have n41:(((s[k].toNat:Nat):Int)==41)=false:=by rw[hch];rfl
     have n93:(((s[k].toNat:Nat):Int)==93)=false:=by rw[hch];rfl
     have n40:(((s[k].toNat:Nat):Int)==40)=false:=by rw[hch];rfl
     have n91:(((s[k].toNat:Nat):Int)==91)=false:=by rw[hch];rfl
     simp only[List.length_cons] at hst HOB ⊢
     clear hch hpl
     go_wp2_with ((at_builtin;refine wpList_append_own _ rfl _ _ 55 rfl (w.heap.size+1) 3 i0 (.int .i64 0) 1 8 Tryz.underlying55 hi0 hz0 hz1 hz2 rfl (by decide) _ _ _ rfl (HO2.out.alloc _) ⟨_,0,none⟩ 1 1 [.int .i64 (k:Int)] rfl rfl (KE (by simp[World.setCell]) _ _) (fun x hx=>by simp at hx;subst hx;rfl) (by unfold maxLen;omega) (by omega) (by first|(simp;omega)|(simp[World.setCell];omega)) ?_;intro v' w5 hown' dI fU;obtain ⟨g',cap',rfl⟩:=mG hown' (fun e=>by have h9:=(fU.1 e).1;cases h9);have HG:=hide dI;have HW:=hide hown';clear dI hown' fU))
     all_goals (
      refine ⟨⟨k+1,k::r,fun x=>if x=k then q else if x=q then k+1 else L x,g',cap',by omega,by go_num,rfl,by first|omega|(simp;done)|(simp;omega),?_,?_,fun x hx=>?_,by rw[HR.out,HS.out,HN.out],?_⟩,by simp[intOf];omega⟩
      ·have:=HW.out
       rw[List.reverse_cons,p9];exact this
      ·refine sN.out.same ?_
       rw[HG.out.block w.heap.size (by first|(simp;omega)|(simp[World.setCell];omega)) (fun e=>by have:=(HO2.out.lt _ e.symm).1;omega),heap_alloc_old _ _ (by first|omega|(simp;omega)|(simp[World.setCell];omega))]
      ·simp only[List.mem_cons] at hx
       rcases hx with rfl|hx
       ·omega
       ·have:=HQ.out x (by simp[hx]);omega
      ·exact (HB2.out.alloc HB2.out.size _).grown HG.out (by first|(simp;omega)|(simp[World.setCell];omega)) (fun x hx=>by have:=(HO2.out.lt x hx).1;omega))
   exfalso;omega
  ·go_wp2
   go_ret
   refine ⟨_,rfl,Nat.le_refl _,HBK.out.congr fun i hi=>?_,HB.out⟩
   have e:leads s.data.toList=L:=by unfold leads;rw[HR.out,Og s k _ (by omega)]
   rw[e]
end
section
open Mc
abbrev jI (h:Nat):Array Value:=#[.bool (h.testBit 0),.bool (h.testBit 1),.bool (h.testBit 2),.bool (h.testBit 3),.bool (h.testBit 4),.bool (h.testBit 5)]
theorem vT (h:Nat)(l:Int)(w:World)(h0:-1000<=l)(h1:l<=1000) :
  Calls Tryz.prog 130 #[.agg #[.bool (h.testBit 0),.bool (h.testBit 1),.bool (h.testBit 2),.bool (h.testBit 3),.bool (h.testBit 4),.bool (h.testBit 5)],.int .i64 l] w fun e w'=>e=.returned (.bool (hasB h l))/\Below w.heap.size w w':=by
 by_cases hlo:l<0
 ·have e:hasB h l=false:=by simp[hasB];omega
  rw[e]
  clear e
  go_enter Tryz.func130,Tryz.ntmps130
  go_wp2
  all_goals first|(exfalso;omega)|(go_ret;exact ⟨rfl,(Below.refl _ _).alloc (Nat.le_refl _) _⟩)
 by_cases hhi:6<=l
 ·have e:hasB h l=false:=by simp[hasB];omega
  rw[e]
  clear e
  go_enter Tryz.func130,Tryz.ntmps130
  go_wp2
  all_goals first|(exfalso;omega)|(go_ret;exact ⟨rfl,(Below.refl _ _).alloc (Nat.le_refl _) _⟩)
 have hc:l=0\/l=1\/l=2\/l=3\/l=4\/l=5:=by omega
 clear hlo hhi h0 h1
 rcases hc with rfl|rfl|rfl|rfl|rfl|rfl
 all_goals (
  go_enter Tryz.func130,Tryz.ntmps130
  go_wp2
  go_ret
  exact ⟨bW (by simp[hasB,holds]),(Below.refl _ _).alloc (Nat.le_refl _) _⟩)
theorem Oh:∀h,h<64->((!h.testBit 0&&!h.testBit 1&&!h.testBit 2&&!h.testBit 3&&!h.testBit 4&&!h.testBit 5)=(h==0)):=by decide
theorem RG (b0 b1 b2 b3 b4 b5:Bool)(w:World):(Op.equalIn 10000 89 (.agg #[.bool b0,.bool b1,.bool b2,.bool b3,.bool b4,.bool b5]) (.agg #[.bool false,.bool false,.bool false,.bool false,.bool false,.bool false])).run Tryz.prog w=.ok (!(b0||b1||b2||b3||b4||b5)) w:=by
 cases b0<;>cases b1<;>cases b2<;>cases b3<;>cases b4<;>cases b5<;>kernel_rfl
theorem yK (h:Nat)(w:World)(hh:h<64) :
  Calls Tryz.prog 131 #[.agg #[.bool (h.testBit 0),.bool (h.testBit 1),.bool (h.testBit 2),.bool (h.testBit 3),.bool (h.testBit 4),.bool (h.testBit 5)]] w fun e w'=>e=.returned (.bool (h==0))/\Below w.heap.size w w':=by
 have HZ:=hide (Oh h hh)
 generalize h.testBit 0=b0 at *
 generalize h.testBit 1=b1 at *
 generalize h.testBit 2=b2 at *
 generalize h.testBit 3=b3 at *
 generalize h.testBit 4=b4 at *
 generalize h.testBit 5=b5 at *
 have heq:=fun w=>RG b0 b1 b2 b3 b4 b5 w
 go_enter Tryz.func131,Tryz.ntmps131
 go_wp2
 go_ret
 exact ⟨bW (by rw[HZ.out]),(Below.refl _ _).alloc (Nat.le_refl _) _⟩
theorem Tryz.iHeld:(Tryz.prog.info? 89).map (·.size)=some 6:=by kernel_rfl
theorem xH (b0 b1 b2 b3 b4 b5 v:Bool)(l:Nat)(w:World)(hl:l<6) :
  Calls Tryz.prog 146 #[.agg #[.bool b0,.bool b1,.bool b2,.bool b3,.bool b4,.bool b5],.int .i64 l,.bool v] w fun e w'=>e=.returned (.agg #[.bool (if l=0 then v else b0),.bool (if l=1 then v else b1),.bool (if l=2 then v else b2),.bool (if l=3 then v else b3),.bool (if l=4 then v else b4),.bool (if l=5 then v else b5)])/\Below w.heap.size w w':=by
 have hc:l=0\/l=1\/l=2\/l=3\/l=4\/l=5:=by omega
 rcases hc with rfl|rfl|rfl|rfl|rfl|rfl
 ·go_enter Tryz.func146,Tryz.ntmps146
  go_wp2
  exact bodyPost_ret (v:=.agg #[.bool v,.bool b1,.bool b2,.bool b3,.bool b4,.bool b5]) (results_cell_row Tryz.results146 _ _ (w.heap.size+1) 89 #[.bool v,.bool b1,.bool b2,.bool b3,.bool b4,.bool b5] (0,0) _ rfl (heap_alloc2_new _ _ _) Tryz.underlying89 rfl Tryz.iHeld) rfl ⟨rfl,((Below.refl _ _).alloc (Nat.le_refl _) _).alloc (by simp) _⟩
 ·go_enter Tryz.func146,Tryz.ntmps146
  go_wp2
  exact bodyPost_ret (v:=.agg #[.bool b0,.bool v,.bool b2,.bool b3,.bool b4,.bool b5]) (results_cell_row Tryz.results146 _ _ (w.heap.size+1) 89 #[.bool b0,.bool v,.bool b2,.bool b3,.bool b4,.bool b5] (0,0) _ rfl (heap_alloc2_new _ _ _) Tryz.underlying89 rfl Tryz.iHeld) rfl ⟨rfl,((Below.refl _ _).alloc (Nat.le_refl _) _).alloc (by simp) _⟩
 ·go_enter Tryz.func146,Tryz.ntmps146
  go_wp2
  exact bodyPost_ret (v:=.agg #[.bool b0,.bool b1,.bool v,.bool b3,.bool b4,.bool b5]) (results_cell_row Tryz.results146 _ _ (w.heap.size+1) 89 #[.bool b0,.bool b1,.bool v,.bool b3,.bool b4,.bool b5] (0,0) _ rfl (heap_alloc2_new _ _ _) Tryz.underlying89 rfl Tryz.iHeld) rfl ⟨rfl,((Below.refl _ _).alloc (Nat.le_refl _) _).alloc (by simp) _⟩
 ·go_enter Tryz.func146,Tryz.ntmps146
  go_wp2
  exact bodyPost_ret (v:=.agg #[.bool b0,.bool b1,.bool b2,.bool v,.bool b4,.bool b5]) (results_cell_row Tryz.results146 _ _ (w.heap.size+1) 89 #[.bool b0,.bool b1,.bool b2,.bool v,.bool b4,.bool b5] (0,0) _ rfl (heap_alloc2_new _ _ _) Tryz.underlying89 rfl Tryz.iHeld) rfl ⟨rfl,((Below.refl _ _).alloc (Nat.le_refl _) _).alloc (by simp) _⟩
 ·go_enter Tryz.func146,Tryz.ntmps146
  go_wp2
  exact bodyPost_ret (v:=.agg #[.bool b0,.bool b1,.bool b2,.bool b3,.bool v,.bool b5]) (results_cell_row Tryz.results146 _ _ (w.heap.size+1) 89 #[.bool b0,.bool b1,.bool b2,.bool b3,.bool v,.bool b5] (0,0) _ rfl (heap_alloc2_new _ _ _) Tryz.underlying89 rfl Tryz.iHeld) rfl ⟨rfl,((Below.refl _ _).alloc (Nat.le_refl _) _).alloc (by simp) _⟩
 ·go_enter Tryz.func146,Tryz.ntmps146
  go_wp2
  exact bodyPost_ret (v:=.agg #[.bool b0,.bool b1,.bool b2,.bool b3,.bool b4,.bool v]) (results_cell_row Tryz.results146 _ _ (w.heap.size+1) 89 #[.bool b0,.bool b1,.bool b2,.bool b3,.bool b4,.bool v] (0,0) _ rfl (heap_alloc2_new _ _ _) Tryz.underlying89 rfl Tryz.iHeld) rfl ⟨rfl,((Below.refl _ _).alloc (Nat.le_refl _) _).alloc (by simp) _⟩
theorem qm:∀h,h<64->∀l,l<6->h.testBit l=false->∀i,i<6->(h+2 ^ l).testBit i=(if l=i then true else h.testBit i):=by decide
theorem qo:∀h,h<64->∀l,l<6->h.testBit l=true->∀i,i<6->(h-2 ^ l).testBit i=(if l=i then false else h.testBit i):=by decide
end
end Go.Proofs.YtecmfdkhcffpmaaGreat
