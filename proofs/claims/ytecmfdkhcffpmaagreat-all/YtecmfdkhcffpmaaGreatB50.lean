/- KwE, KwF, KpB, KwG, StS, PureR1. -/
import Derived.Test.YtecmfdkhcffpmaaGreatB49
import Derived.Test.YtecmfdkhcffpmaaGreatB06
import Derived.Laws.BytesArg
import Derived.Laws.IdiomStrings
import Derived.Laws.Concat
import Derived.OwnWalk
import Derived.BigQuiet
import Derived.Deep.QuietTactic
import Derived.Test.YtecmfdkhcffpmaaGreatB16
import Derived.Test.YtecmfdkhcffpmaaGreatB23
import Derived.WalkSpells
import Derived.Maps.AppendAt
import Derived.Test.YtecmfdkhcffpmaaGreatB47
import Derived.Test.YtecmfdkhcffpmaaGreatB33
namespace Go.Proofs.YtecmfdkhcffpmaaGreat
open Go.RowKit
set_option linter.unusedVariables false
set_option linter.unusedSimpArgs false
set_option linter.unusedSectionVars false
set_option maxHeartbeats 8000000
set_option maxRecDepth 100000
section
open Wd
def IntsIn (w:World)(v:Value)(zs:List Int):Prop :=
 ∃(ao:Option Addr) (cap:Nat),v=.slice ao zs.length cap/\zs.length<=maxLen/\(∀z∈zs,-9223372036854775808<=z/\z<=9223372036854775807) /\
  ∀i (h:i<zs.length),∃b,ao=some b/\b.block<w.heap.size/\w.cell? (b.add i)=some (.int .i64 zs[i])
theorem zC (b:Addr)(i:Nat):(b.add i).block=b.block:=by unfold Addr.add;split<;>rfl
theorem IntsIn.below {w w':World}{v:Value}{zs:List Int}(h:IntsIn w v zs){B:Nat}(hb:Below B w w')(hB:w.heap.size<=B):IntsIn w' v zs:=by
 obtain ⟨ao,cap,h1,h2,h3,h4⟩:=h
 refine ⟨ao,cap,h1,h2,h3,fun i hi=>?_⟩
 obtain ⟨b,e1,e2,e3⟩:=h4 i hi
 exact ⟨b,e1,Nat.lt_of_lt_of_le e2 hb.size,by rw[hb.cell (by rw[zC];omega)];exact e3⟩
end
section
open Wd
def zD (w:World)(v:Value)(ps:List Pt):Prop :=
 ∃(ao:Option Addr) (cap:Nat),v=.slice ao ps.length cap/\ps.length<=maxLen /\
  ∀i (h:i<ps.length),∃b,ao=some b/\b.block<w.heap.size/\w.cell? (b.add (i*2))=some (.bool ps[i].handler)/\∃u,w.cell? (b.add (i*2+1))=some u/\IntsIn w u ps[i].steps
theorem zD.below {w w':World}{v:Value}{ps:List Pt}(h:zD w v ps){B:Nat}(hb:Below B w w')(hB:w.heap.size<=B):zD w' v ps:=by
 obtain ⟨ao,cap,h1,h2,h4⟩:=h
 refine ⟨ao,cap,h1,h2,fun i hi=>?_⟩
 obtain ⟨b,e1,e2,e3,u,e4,e5⟩:=h4 i hi
 exact ⟨b,e1,Nat.lt_of_lt_of_le e2 hb.size,by rw[hb.cell (by rw[zC];omega)];exact e3,u,by rw[hb.cell (by rw[zC];omega)];exact e4,e5.below hb hB⟩
end
section
open Mc
namespace Mc
open Wd
theorem Po (its:List It)(S:Ma)(n c:Nat)(what:Int):bt (u8 (command its S n c what).1)=(command its S n c what).1 :=
 Gf (qX its S n c what).1 (qX its S n c what).2
end Mc
end
section
open Wd Mc
theorem cell_two_new (w:World)(x y:Value)(t:TypeId):∀j u,[x,y][j]?=some u->(w.alloc (.cells #[x,y] t)).cell? ((⟨w.heap.size,0,none⟩:Addr).add j)=some u:=by
 intro j u h
 have hj:j<2:=(List.getElem?_eq_some_iff.1 h).1
 rw[Addr.add_mid]
 rw[World.cell?_alloc_mark]
 match j,hj with
 | 0,_=>simpa using h
 | 1,_=>simpa using h
theorem Fe {w:World}{B:Nat}{v:Value}{acc:List UInt8}{c d:UInt8}(h:w.ownsRow B 5 1 v (acc.length+2) (Wd.aZ acc++[.int .u8 (bt c),.int .u8 (bt d)])):w.ownsRow B 5 1 v (acc++[c,d]).length (Wd.aZ (acc++[c,d])):=by
 have e:Wd.aZ (acc++[c,d])=Wd.aZ acc++[.int .u8 (bt c),.int .u8 (bt d)]:=by simp[Wd.aZ]
 rw[e,List.length_append];exact h
theorem xw {ops:Array Oper}{rest:List Oper}{o:Oper}{a:Act}{w:World}{Q:Exit->Act->World->Prop}(hgd:o.guard=none)(s x:Operand)
  (ho:o.op=.call {callee:=.builtin .append,args:=#[s,x],argTypes:=#[63,63]})
  (B:Nat) (v:Value) (acc:List UInt8) (c d:UInt8) (hs:a.eval s=v) (g cap:Nat) (hx:a.eval x=.slice (some ⟨g,0,none⟩) 2 cap)
  (hown:w.ownsRow B 5 1 v acc.length (Wd.aZ acc)) (hcell:∀j u,[Value.int .u8 (bt c),Value.int .u8 (bt d)][j]?=some u->w.cell? ((⟨g,0,none⟩:Addr).add j)=some u) (hl:acc.length<=1000000) (hB:B<=w.heap.size)
  (h:∀v' w',w'.ownsRow B 5 1 v' (acc++[c,d]).length (Wd.aZ (acc++[c,d]))->w.grownBy w' v.ownBlock->wpList Tryz.prog ops Q rest (a.put o.dst v') w') :
  wpList Tryz.prog ops Q (o::rest) a w:=by
 obtain ⟨i0,hi0,hz0,hz1,hz2⟩:=info_parts Tryz.infoU8
 refine wpList_append_own w hgd s x 63 ho B 5 i0 (.int .u8 0) 1 1 Tryz.underlying63 hi0 hz0 hz1 hz2 rfl (by decide) v acc.length (Wd.aZ acc) hs hown ⟨g,0,none⟩ 2 cap [.int .u8 (bt c),.int .u8 (bt d)] hx rfl hcell (fun y hy=>by simp at hy;rcases hy with rfl|rfl<;>rfl) (by unfold maxLen;omega) (by omega) hB ?_
 intro v' w' hown' hgr _
 exact h v' w' (Fe hown') hgr
end
section
open Mc
def dZ (i:Nat)(b:List UInt8):Nat->List Rc->List UInt8
 | _,[]=>[48,46]
 | p,r::rs=>[48,if r.comma=true then 44 else 46]++((if atB b p=122 then [48,Wd.b8 (48+i)] else [])++dZ i b r.p rs)
def iZ (i:Nat)(b:List UInt8)(way:List Rc):List UInt8:=[48,Wd.b8 (48+i)]++dZ i b 0 way
theorem JM (i:Nat)(b:List UInt8)(p j:Nat)(L:List Rc)(r:Rc)(h:L[j]?=some r):dZ i b p (L.drop j)=[48,if r.comma=true then 44 else 46]++((if atB b p=122 then [48,Wd.b8 (48+i)] else [])++dZ i b r.p (L.drop (j+1))):=by
 have hj:=(List.getElem?_eq_some_iff.1 h).1
 have e:L[j]=r:=(List.getElem?_eq_some_iff.1 h).2
 rw[List.drop_eq_getElem_cons hj,dZ,e]
theorem Q5 (w:World)(c d:UInt8):(w.alloc (.cells #[.int .u8 (Wd.bt c),.int .u8 (Wd.bt d)] 5)).ownsRow w.heap.size 5 1 (.slice (some ⟨w.heap.size,0,none⟩) 2 2) [c,d].length (Wd.aZ [c,d]):=by
 refine ⟨rfl,.inr ⟨w.heap.size,2,_,rfl,Nat.le_refl _,heap_alloc_last _ _,by simp,by decide,rfl,rfl⟩⟩
theorem UY (b:Bool)(w:World):(Instr.field 91 (.agg #[.int .i64 0,.bool false,.bool false,.bool false,.bool false,.bool false,.bool false,.bool b]) 0).run Tryz.prog w=.ok (.int .i64 0) w:=by kernel_rfl
theorem Row.jU {w w':World}{g:Nat}{cs:Array Value}{t:TypeId}{o:Obj}{q:Option Nat}(h:Row w g cs t)(hg:(w.alloc o).grownBy w' q)(hne:q≠some g):Row w' g cs t:=by
 have:=h.raw
 unfold Row
 rw[yD hg g h.lt hne];exact this
theorem ul {ops:Array Oper}{rest:List Oper}{o:Oper}{a:Act}{w:World}{Q:Exit->Act->World->Prop}(hgd:o.guard=none)(s x:Operand)
  (ho:o.op=.call {callee:=.builtin .append,args:=#[s,x],argTypes:=#[63,63]})
  (B:Nat) (v:Value) (acc:List UInt8) (c d:UInt8) (hs:a.eval s=v) (g cap:Nat) (hx:a.eval x=.slice (some ⟨g,0,none⟩) 2 cap)
  (hown:w.ownsRow B 5 1 v acc.length (Wd.aZ acc)) (hcell:∀j u,[Value.int .u8 (Wd.bt c),Value.int .u8 (Wd.bt d)][j]?=some u->w.cell? ((⟨g,0,none⟩:Addr).add j)=some u) (hl:acc.length<=1000000) (hB:B<=w.heap.size)
  (h:∀v' w',w'.ownsRow B 5 1 v' (acc++[c,d]).length (Wd.aZ (acc++[c,d]))->w.grownBy w' v.ownBlock->(v'.ownBlock=v.ownBlock\/v'.ownBlock=some w.heap.size)->wpList Tryz.prog ops Q rest (a.put o.dst v') w') :
  wpList Tryz.prog ops Q (o::rest) a w:=by
 obtain ⟨i0,hi0,hz0,hz1,hz2⟩:=info_parts Tryz.infoU8
 refine wpList_append_own_at w hgd s x 63 ho B 5 i0 (.int .u8 0) 1 1 Tryz.underlying63 hi0 hz0 hz1 hz2 rfl (by decide) v acc.length (Wd.aZ acc) hs hown ⟨g,0,none⟩ 2 cap [.int .u8 (Wd.bt c),.int .u8 (Wd.bt d)] hx rfl hcell (fun y hy=>by simp at hy;rcases hy with rfl|rfl<;>rfl) (by unfold maxLen;omega) (by omega) hB ?_
 intro v' w' hown' hgr _ hat
 exact h v' w' (Fe hown') hgr hat
theorem K6 (i:Nat)(hd:Bool)(s:ByteArray)(lg:Nat)(L:List Rc)(v:Value)(b:Nat)(w:World)(hi:i<8)(hs:s.size<=300)(hL:L.length<=100000)(hp:∀r∈L,r.p<=300)(hv:w.ownsRow b 130 10 v L.length (L.flatMap rcV))(hbw:b<=w.heap.size) :
  Calls Tryz.prog 80 #[.int .i64 i,.agg [.bool hd,.string s,.slice (some ⟨lg,0,none⟩) s.size s.size].toArray,v] w fun e w'=>e=.returned (.string (Wd.mkS (iZ i s.data.toList L)))/\Below w.heap.size w w':=by
 have HO:=hide hv
 obtain ⟨ga,ca,hva⟩:=bq hv
 subst hva
 have HP:=hide hp
 clear hv hp
 have AB:=hide (fun W=>uS hd s (some ⟨lg,0,none⟩) s.size s.size W)
 have AT:=hide (fun p W (h:p<=300)=>iF hd s (some ⟨lg,0,none⟩) s.size s.size p W (by omega) (by omega))
 have HBI:Hid (Wd.bt (Wd.b8 (48+i))=48+(i:Int)):=hide (by rw[Wd.oL (by omega)];omega)
 generalize hT:iZ i s.data.toList L=T
 have HT:=hide hT
 clear hT
 obtain ⟨B,hB⟩:∃B,w.heap.size+1=B:=⟨_,rfl⟩
 have HBB:=hide hB
 clear hB
 have HC0:=hide (Row.new w [.bool hd,.string s,.slice (some ⟨lg,0,none⟩) s.size s.size].toArray 88)
 have tX:=hide (aD w (.cells [.bool hd,.string s,.slice (some ⟨lg,0,none⟩) s.size s.size].toArray 88))
 have HN0:Hid (((w.alloc (.cells [.bool hd,.string s,.slice (some ⟨lg,0,none⟩) s.size s.size].toArray 88)).alloc (.cells #[.int .u8 48,.int .u8 (48+(i:Int))] 5)).ownsRow B 5 1 (.slice (some ⟨w.heap.size+1,0,none⟩) 2 2) [48,Wd.b8 (48+i)].length (Wd.aZ [48,Wd.b8 (48+i)])):=by
  apply hide
  have:=Q5 (w.alloc (.cells [.bool hd,.string s,.slice (some ⟨lg,0,none⟩) s.size s.size].toArray 88)) 48 (Wd.b8 (48+i))
  rw[HBI.out] at this
  have e:(w.alloc (.cells [.bool hd,.string s,.slice (some ⟨lg,0,none⟩) s.size s.size].toArray 88)).heap.size=w.heap.size+1:=by simp
  rw[e,HBB.out] at this
  rw[HBB.out];exact this
 have hfl:=fun W=>UY hd W
 go_enter Tryz.func80,Tryz.ntmps80
 go_wp2_with (first|(go_at_call 104;refine (AB.out _).mono ?_;rintro e w1 ⟨rfl,hb1⟩;have HC1:=hide ((HC0.out.alloc _).below hb1);have HN1:=hide (fO HN0.out (fun g _ hl=>hb1.block g hl));have HB1:=hide ((tX.out.alloc (by simp) _).trans (hb1.mono (by simp;omega)));have hsz1:=hb1.size;clear hb1))
 have qV:B<=w1.heap.size:=by have:=HBB.out;simp at hsz1;omega
 clear hsz1 HN0 HC0 tX AB hfl
 go_loopw [8,9,23] (fun a p c wr=>∃(j q:Nat) (acc:List UInt8),j<=L.length/\q<=300/\p=.int .i64 q/\c=.int .i64 j/\acc.length<=2+4*j/\T=acc++dZ i s.data.toList q (L.drop j)/\wr.ownsRow B 5 1 a acc.length (Wd.aZ acc)/\Row wr w.heap.size [.bool hd,.string s,.slice (some ⟨lg,0,none⟩) s.size s.size].toArray 88/\Below w.heap.size w wr/\B<=wr.heap.size) (fun _ _ c _=>L.length-(intOf c).toNat)
 case atStart=>exact ⟨0,0,[48,Wd.b8 (48+i)],by omega,by omega,rfl,rfl,by simp,by rw[<-HT.out];rfl,HN1.out,HC1.out,HB1.out,qV⟩
 case round =>
  clear HN1 HC1 HB1 qV
  obtain ⟨j,q,acc,hj,hq,rfl,rfl,hal,hTT,hown,hrow,hb,hbs⟩:=hrel
  have HTT:=hide hTT
  have HA:=hide hown
  have HC:=hide hrow
  have HB:=hide hb
  clear hTT hown hrow hb
  by_cases hlt:j<L.length
  ·obtain ⟨r,hr⟩:∃r,L[j]?=some r:=⟨L[j],List.getElem?_eq_getElem hlt⟩
   have HRP:=hide (HP.out r (List.mem_of_getElem? hr))
   obtain ⟨g1,c1,hv1,_,hg1,_,_,hr1⟩:=fI nC (fO HO.out (fun g _ hl=>HB.out.block g hl)) hr
   cases hv1
   have HR1:Hid (wr.rangeAt g1 (j*10) (rcV r)):=hide hr1
   have hj0:(0:Int)<=(j:Int):=by omega
   have hji:(j:Int)<(L.length:Int):=by omega
   have HSW:=hide (JM i s.data.toList q j L r hr)
   have HQ:=hide (AT.out q)
   have hqz:=jG s.data.toList q
   obtain ⟨Z,hZ⟩:∃Z,dZ i s.data.toList r.p (L.drop (j+1))=Z:=⟨_,rfl⟩
   rw[hZ] at HSW
   have HZ:=hide hZ
   clear hZ
   generalize dZ i s.data.toList q (L.drop j)=Y at *
   clear hr hr1
   generalize atB s.data.toList q=z at *
   obtain ⟨ord,Ay⟩:∃o:UInt8,(if r.comma=true then (44:UInt8) else 46)=o:=⟨_,rfl⟩
   rw[Ay] at HSW
   have Hw:=hide Ay
   clear Ay
   obtain ⟨cm,hcm⟩:∃c,r.comma=c:=⟨_,rfl⟩
   have HCM:=hide hcm
   clear hcm
   cases cm
   ·have HOB:Hid (Wd.bt ord=46):=hide (by rw[<-Hw.out,HCM.out];rfl)
    by_cases hz:z=122
    ·have HTN:Hid (T=((acc++[48,ord])++[48,Wd.b8 (48+i)])++Z):=hide (by rw[HTT.out,HSW.out,if_pos hz];simp)
     subst hz
     go_wp2_with (first|(have hx:=HT3.out;at_builtin;refine xw rfl _ _ rfl B _ (acc++[48,ord]) 48 (Wd.b8 (48+i)) rfl _ _ rfl ?_ ?_ ?_ ?_ ?_;(exact HA3.out.alloc _);(rw[HBI.out];exact cell_two_new _ _ _ _);(simp;omega);(simp;omega);intro v4 w4 sH kX;have HA4:=hide sH;have HC4:=hide (HC3.out.jU kX (fun e=>(by have h9:=HBB.out;have:=(HA3.out.lt _ e).1;omega)));have mW:=hide (dW.out.jU kX (fun e=>(by exact kW.out _ e rfl)));have HB4:=hide (HB3.out.trans ((ko kX HA3.out).mono (by have h9:=HBB.out;omega)));have qW:B<=w4.heap.size:=(by have:=kX.size;simp at this;omega);have p4:w4.cell? ⟨wr.heap.size,0,none⟩=some (.int .i64 (r.p:Int)):=mW.out.cell 0 (fq r);clear sH kX hx)|(go_at_call 105;refine (HQ.out _ hq).mono ?_;rintro e w3 ⟨rfl,hb3⟩;have HA3:=hide (fO HA2.out (fun g _ hl=>hb3.block g hl));have HC3:=hide (HC2.out.below hb3);have dW:=hide (bL.out.below hb3);have HB3:=hide (HB2.out.trans (hb3.mono HB2.out.size));have tY:B<=w3.heap.size:=Nat.le_trans pK hb3.size;have p3:w3.cell? ⟨wr.heap.size,0,none⟩=some (.int .i64 (r.p:Int)):=dW.out.cell 0 (fq r);have HT3:=hide True.intro;clear hb3)|(refine wpList_load_row rfl 88 _ rfl _ rfl 88 [.bool hd,.string s,.slice (some ⟨lg,0,none⟩) s.size s.size].toArray (0,0) _ ?_ Tryz.underlying88 rfl Tryz.iCode ?_;(exact HC2.out.raw))|(at_builtin;refine ul rfl _ _ rfl B _ acc 48 ord rfl _ _ rfl ?_ ?_ ?_ ?_ ?_;(exact HA1.out.alloc _);(rw[HOB.out];exact cell_two_new _ _ _ _);(omega);(have:=HS1.out;simp;omega);intro v2 w2 hown2 dQ kY;have HE2:=hide kY;have HA2:=hide hown2;have HC2:=hide (HC1.out.jU dQ (fun e=>(by have h9:=HBB.out;have:=(HA1.out.lt _ e).1;omega)));have bL:=hide (aV.out.jU dQ (fun e=>(by have:=(HAL.out _ e).2;omega)));have HB2:=hide (HB1.out.trans ((ko dQ HA1.out).mono (by have h9:=HBB.out;have:=HS1.out;omega)));have pK:B<=w2.heap.size:=(by have h1:=HS1.out;have:=dQ.size;simp at this;omega);have kW:=hide (fun g (e:v2.ownBlock=some g)=>(by rcases HE2.out with h|h;(rw[h] at e;have:=(HAL.out _ e).2;omega);(rw[h] at e;injection e with e;have h1:=HS1.out;simp at e;omega):g≠wr.heap.size));clear hown2 dQ kY)|(refine wpList_store_row rfl 130 _ _ rfl wr.heap.size (rcA r) rfl rfl 130 #[.int .i64 0,.bool false,.bool false,.bool false,.bool false,.bool false,.bool false,.bool false,.int .i64 0,.bool false] ?_ (Tryz.iRc _) rfl (gW _) ?_;(exact (Row.new wr #[.int .i64 0,.bool false,.bool false,.bool false,.bool false,.bool false,.bool false,.bool false,.int .i64 0,.bool false] 130).raw);rw[World.setRow_alloc_new];have HC1:=hide (HC.out.alloc (.cells (rcA r) 130));have aV:=hide (Row.new wr (rcA r) 130);have HA1:=hide (HA.out.alloc (.cells (rcA r) 130));have HB1:=hide (HB.out.alloc HB.out.size (.cells (rcA r) 130));have HS1:=hide (show (wr.alloc (.cells (rcA r) 130)).heap.size=wr.heap.size+1 by simp);have HAL:=hide HA.out.lt;generalize wr.alloc (.cells (rcA r) 130)=w1 at *;have y9:w1.cell? ⟨wr.heap.size,9,none⟩=some (.bool r.comma):=aV.out.cell 9 rfl;rw[HCM.out] at y9)|(refine wpList_load_mid rfl 130 _ rfl _ _ rfl (rcV r) _ ?_ Tryz.underlying130 rfl Tryz.iReached ?_;(exact HR1.out)))
     go_round
     case measure=>simp[intOf];omega
     case rel=>exact ⟨j+1,r.p,(acc++[48,ord])++[48,Wd.b8 (48+i)],by omega,HRP.out,rfl,by go_num,by simp;omega,by rw[HZ.out];exact HTN.out,HA4.out,HC4.out,HB4.out,qW⟩
    ·have HTN:Hid (T=(acc++[48,ord])++Z):=hide (by rw[HTT.out,HSW.out,if_neg hz];simp)
     have hzb:(z==122)=false:=by simp[hz]
     clear hz
     go_wp2_with (first|(go_at_call 105;refine (HQ.out _ hq).mono ?_;rintro e w3 ⟨rfl,hb3⟩;have HA3:=hide (fO HA2.out (fun g _ hl=>hb3.block g hl));have HC3:=hide (HC2.out.below hb3);have dW:=hide (bL.out.below hb3);have HB3:=hide (HB2.out.trans (hb3.mono HB2.out.size));have tY:B<=w3.heap.size:=Nat.le_trans pK hb3.size;have p3:w3.cell? ⟨wr.heap.size,0,none⟩=some (.int .i64 (r.p:Int)):=dW.out.cell 0 (fq r);have HT3:=hide True.intro;clear hb3)|(refine wpList_load_row rfl 88 _ rfl _ rfl 88 [.bool hd,.string s,.slice (some ⟨lg,0,none⟩) s.size s.size].toArray (0,0) _ ?_ Tryz.underlying88 rfl Tryz.iCode ?_;(exact HC2.out.raw))|(at_builtin;refine ul rfl _ _ rfl B _ acc 48 ord rfl _ _ rfl ?_ ?_ ?_ ?_ ?_;(exact HA1.out.alloc _);(rw[HOB.out];exact cell_two_new _ _ _ _);(omega);(have:=HS1.out;simp;omega);intro v2 w2 hown2 dQ kY;have HE2:=hide kY;have HA2:=hide hown2;have HC2:=hide (HC1.out.jU dQ (fun e=>(by have h9:=HBB.out;have:=(HA1.out.lt _ e).1;omega)));have bL:=hide (aV.out.jU dQ (fun e=>(by have:=(HAL.out _ e).2;omega)));have HB2:=hide (HB1.out.trans ((ko dQ HA1.out).mono (by have h9:=HBB.out;have:=HS1.out;omega)));have pK:B<=w2.heap.size:=(by have h1:=HS1.out;have:=dQ.size;simp at this;omega);have kW:=hide (fun g (e:v2.ownBlock=some g)=>(by rcases HE2.out with h|h;(rw[h] at e;have:=(HAL.out _ e).2;omega);(rw[h] at e;injection e with e;have h1:=HS1.out;simp at e;omega):g≠wr.heap.size));clear hown2 dQ kY)|(refine wpList_store_row rfl 130 _ _ rfl wr.heap.size (rcA r) rfl rfl 130 #[.int .i64 0,.bool false,.bool false,.bool false,.bool false,.bool false,.bool false,.bool false,.int .i64 0,.bool false] ?_ (Tryz.iRc _) rfl (gW _) ?_;(exact (Row.new wr #[.int .i64 0,.bool false,.bool false,.bool false,.bool false,.bool false,.bool false,.bool false,.int .i64 0,.bool false] 130).raw);rw[World.setRow_alloc_new];have HC1:=hide (HC.out.alloc (.cells (rcA r) 130));have aV:=hide (Row.new wr (rcA r) 130);have HA1:=hide (HA.out.alloc (.cells (rcA r) 130));have HB1:=hide (HB.out.alloc HB.out.size (.cells (rcA r) 130));have HS1:=hide (show (wr.alloc (.cells (rcA r) 130)).heap.size=wr.heap.size+1 by simp);have HAL:=hide HA.out.lt;generalize wr.alloc (.cells (rcA r) 130)=w1 at *;have y9:w1.cell? ⟨wr.heap.size,9,none⟩=some (.bool r.comma):=aV.out.cell 9 rfl;rw[HCM.out] at y9)|(refine wpList_load_mid rfl 130 _ rfl _ _ rfl (rcV r) _ ?_ Tryz.underlying130 rfl Tryz.iReached ?_;(exact HR1.out)))
     go_round
     case measure=>simp[intOf];omega
     case rel=>exact ⟨j+1,r.p,acc++[48,ord],by omega,HRP.out,rfl,by go_num,by simp;omega,by rw[HZ.out];exact HTN.out,HA3.out,HC3.out,HB3.out,tY⟩
   ·have HOB:Hid (Wd.bt ord=44):=hide (by rw[<-Hw.out,HCM.out];rfl)
    by_cases hz:z=122
    ·have HTN:Hid (T=((acc++[48,ord])++[48,Wd.b8 (48+i)])++Z):=hide (by rw[HTT.out,HSW.out,if_pos hz];simp)
     subst hz
     go_wp2_with (first|(have hx:=HT3.out;at_builtin;refine xw rfl _ _ rfl B _ (acc++[48,ord]) 48 (Wd.b8 (48+i)) rfl _ _ rfl ?_ ?_ ?_ ?_ ?_;(exact HA3.out.alloc _);(rw[HBI.out];exact cell_two_new _ _ _ _);(simp;omega);(simp;omega);intro v4 w4 sH kX;have HA4:=hide sH;have HC4:=hide (HC3.out.jU kX (fun e=>(by have h9:=HBB.out;have:=(HA3.out.lt _ e).1;omega)));have mW:=hide (dW.out.jU kX (fun e=>(by exact kW.out _ e rfl)));have HB4:=hide (HB3.out.trans ((ko kX HA3.out).mono (by have h9:=HBB.out;omega)));have qW:B<=w4.heap.size:=(by have:=kX.size;simp at this;omega);have p4:w4.cell? ⟨wr.heap.size,0,none⟩=some (.int .i64 (r.p:Int)):=mW.out.cell 0 (fq r);clear sH kX hx)|(go_at_call 105;refine (HQ.out _ hq).mono ?_;rintro e w3 ⟨rfl,hb3⟩;have HA3:=hide (fO HA2.out (fun g _ hl=>hb3.block g hl));have HC3:=hide (HC2.out.below hb3);have dW:=hide (bL.out.below hb3);have HB3:=hide (HB2.out.trans (hb3.mono HB2.out.size));have tY:B<=w3.heap.size:=Nat.le_trans pK hb3.size;have p3:w3.cell? ⟨wr.heap.size,0,none⟩=some (.int .i64 (r.p:Int)):=dW.out.cell 0 (fq r);have HT3:=hide True.intro;clear hb3)|(refine wpList_load_row rfl 88 _ rfl _ rfl 88 [.bool hd,.string s,.slice (some ⟨lg,0,none⟩) s.size s.size].toArray (0,0) _ ?_ Tryz.underlying88 rfl Tryz.iCode ?_;(exact HC2.out.raw))|(at_builtin;refine ul rfl _ _ rfl B _ acc 48 ord rfl _ _ rfl ?_ ?_ ?_ ?_ ?_;(exact HA1.out.alloc _);(rw[HOB.out];exact cell_two_new _ _ _ _);(omega);(have:=HS1.out;simp;omega);intro v2 w2 hown2 dQ kY;have HE2:=hide kY;have HA2:=hide hown2;have HC2:=hide (HC1.out.jU dQ (fun e=>(by have h9:=HBB.out;have:=(HA1.out.lt _ e).1;omega)));have bL:=hide (aV.out.jU dQ (fun e=>(by have:=(HAL.out _ e).2;omega)));have HB2:=hide (HB1.out.trans ((ko dQ HA1.out).mono (by have h9:=HBB.out;have:=HS1.out;omega)));have pK:B<=w2.heap.size:=(by have h1:=HS1.out;have:=dQ.size;simp at this;omega);have kW:=hide (fun g (e:v2.ownBlock=some g)=>(by rcases HE2.out with h|h;(rw[h] at e;have:=(HAL.out _ e).2;omega);(rw[h] at e;injection e with e;have h1:=HS1.out;simp at e;omega):g≠wr.heap.size));clear hown2 dQ kY)|(refine wpList_store_row rfl 130 _ _ rfl wr.heap.size (rcA r) rfl rfl 130 #[.int .i64 0,.bool false,.bool false,.bool false,.bool false,.bool false,.bool false,.bool false,.int .i64 0,.bool false] ?_ (Tryz.iRc _) rfl (gW _) ?_;(exact (Row.new wr #[.int .i64 0,.bool false,.bool false,.bool false,.bool false,.bool false,.bool false,.bool false,.int .i64 0,.bool false] 130).raw);rw[World.setRow_alloc_new];have HC1:=hide (HC.out.alloc (.cells (rcA r) 130));have aV:=hide (Row.new wr (rcA r) 130);have HA1:=hide (HA.out.alloc (.cells (rcA r) 130));have HB1:=hide (HB.out.alloc HB.out.size (.cells (rcA r) 130));have HS1:=hide (show (wr.alloc (.cells (rcA r) 130)).heap.size=wr.heap.size+1 by simp);have HAL:=hide HA.out.lt;generalize wr.alloc (.cells (rcA r) 130)=w1 at *;have y9:w1.cell? ⟨wr.heap.size,9,none⟩=some (.bool r.comma):=aV.out.cell 9 rfl;rw[HCM.out] at y9)|(refine wpList_load_mid rfl 130 _ rfl _ _ rfl (rcV r) _ ?_ Tryz.underlying130 rfl Tryz.iReached ?_;(exact HR1.out)))
     go_round
     case measure=>simp[intOf];omega
     case rel=>exact ⟨j+1,r.p,(acc++[48,ord])++[48,Wd.b8 (48+i)],by omega,HRP.out,rfl,by go_num,by simp;omega,by rw[HZ.out];exact HTN.out,HA4.out,HC4.out,HB4.out,qW⟩
    ·have HTN:Hid (T=(acc++[48,ord])++Z):=hide (by rw[HTT.out,HSW.out,if_neg hz];simp)
     have hzb:(z==122)=false:=by simp[hz]
     clear hz
     go_wp2_with (first|(go_at_call 105;refine (HQ.out _ hq).mono ?_;rintro e w3 ⟨rfl,hb3⟩;have HA3:=hide (fO HA2.out (fun g _ hl=>hb3.block g hl));have HC3:=hide (HC2.out.below hb3);have dW:=hide (bL.out.below hb3);have HB3:=hide (HB2.out.trans (hb3.mono HB2.out.size));have tY:B<=w3.heap.size:=Nat.le_trans pK hb3.size;have p3:w3.cell? ⟨wr.heap.size,0,none⟩=some (.int .i64 (r.p:Int)):=dW.out.cell 0 (fq r);have HT3:=hide True.intro;clear hb3)|(refine wpList_load_row rfl 88 _ rfl _ rfl 88 [.bool hd,.string s,.slice (some ⟨lg,0,none⟩) s.size s.size].toArray (0,0) _ ?_ Tryz.underlying88 rfl Tryz.iCode ?_;(exact HC2.out.raw))|(at_builtin;refine ul rfl _ _ rfl B _ acc 48 ord rfl _ _ rfl ?_ ?_ ?_ ?_ ?_;(exact HA1.out.alloc _);(rw[HOB.out];exact cell_two_new _ _ _ _);(omega);(have:=HS1.out;simp;omega);intro v2 w2 hown2 dQ kY;have HE2:=hide kY;have HA2:=hide hown2;have HC2:=hide (HC1.out.jU dQ (fun e=>(by have h9:=HBB.out;have:=(HA1.out.lt _ e).1;omega)));have bL:=hide (aV.out.jU dQ (fun e=>(by have:=(HAL.out _ e).2;omega)));have HB2:=hide (HB1.out.trans ((ko dQ HA1.out).mono (by have h9:=HBB.out;have:=HS1.out;omega)));have pK:B<=w2.heap.size:=(by have h1:=HS1.out;have:=dQ.size;simp at this;omega);have kW:=hide (fun g (e:v2.ownBlock=some g)=>(by rcases HE2.out with h|h;(rw[h] at e;have:=(HAL.out _ e).2;omega);(rw[h] at e;injection e with e;have h1:=HS1.out;simp at e;omega):g≠wr.heap.size));clear hown2 dQ kY)|(refine wpList_store_row rfl 130 _ _ rfl wr.heap.size (rcA r) rfl rfl 130 #[.int .i64 0,.bool false,.bool false,.bool false,.bool false,.bool false,.bool false,.bool false,.int .i64 0,.bool false] ?_ (Tryz.iRc _) rfl (gW _) ?_;(exact (Row.new wr #[.int .i64 0,.bool false,.bool false,.bool false,.bool false,.bool false,.bool false,.bool false,.int .i64 0,.bool false] 130).raw);rw[World.setRow_alloc_new];have HC1:=hide (HC.out.alloc (.cells (rcA r) 130));have aV:=hide (Row.new wr (rcA r) 130);have HA1:=hide (HA.out.alloc (.cells (rcA r) 130));have HB1:=hide (HB.out.alloc HB.out.size (.cells (rcA r) 130));have HS1:=hide (show (wr.alloc (.cells (rcA r) 130)).heap.size=wr.heap.size+1 by simp);have HAL:=hide HA.out.lt;generalize wr.alloc (.cells (rcA r) 130)=w1 at *;have y9:w1.cell? ⟨wr.heap.size,9,none⟩=some (.bool r.comma):=aV.out.cell 9 rfl;rw[HCM.out] at y9)|(refine wpList_load_mid rfl 130 _ rfl _ _ rfl (rcV r) _ ?_ Tryz.underlying130 rfl Tryz.iReached ?_;(exact HR1.out)))
     go_round
     case measure=>simp[intOf];omega
     case rel=>exact ⟨j+1,r.p,acc++[48,ord],by omega,HRP.out,rfl,by go_num,by simp;omega,by rw[HZ.out];exact HTN.out,HA3.out,HC3.out,HB3.out,tY⟩
  ·have HTN:Hid (T=acc++[48,46]):=hide (by rw[HTT.out,List.drop_of_length_le (by omega)];rfl)
   go_wp2_with (first|(at_builtin;refine xw rfl _ _ rfl B _ acc 48 46 rfl _ _ rfl ?_ ?_ ?_ ?_ ?_;(exact HA.out.alloc _);(exact cell_two_new _ _ _ _);(omega);(simp;omega);intro v2 w2 hown2 dQ;have hcv:=om hown2;have HB2:=hide (HB.out.trans ((ko dQ HA.out).mono (by have h9:=HBB.out;omega)));clear hown2 dQ))
   go_ret
   exact ⟨by rw[HTN.out];rfl,HB2.out⟩
end
inductive Way (T:Tb) (k:Nat):Nat->Nat->Prop
 | one {i j:Nat}(h:T i j=true):Way T k i j
 | more {i x j:Nat}(h:T i x=true) (hx:x<k) (r:Way T k x j):Way T k i j
theorem Way.up {T:Tb}{k i j:Nat}(h:Way T k i j):Way T (k+1) i j:=by
 induction h with
 | one h=>exact .one h
 | more h hx _ ih=>exact .more h (by omega) ih
end Go.Proofs.YtecmfdkhcffpmaaGreat
