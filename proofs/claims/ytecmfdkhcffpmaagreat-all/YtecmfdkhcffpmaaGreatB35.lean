/- StA, StB, StC. -/
import Derived.Test.YtecmfdkhcffpmaaGreatB24
import Derived.Test.YtecmfdkhcffpmaaGreatB27
import Derived.Test.YtecmfdkhcffpmaaGreatB06
import Derived.Test.YtecmfdkhcffpmaaGreatB33
import Derived.Test.YtecmfdkhcffpmaaGreatB14
import Derived.Maps.AppendAt
namespace Go.Proofs.YtecmfdkhcffpmaaGreat
open Go.RowKit
set_option linter.unusedVariables false
set_option linter.unusedSimpArgs false
set_option linter.unusedSectionVars false
set_option maxHeartbeats 8000000
set_option maxRecDepth 100000
section
open Mc
theorem pQ {P:Program}{ops:Array Oper}{rest:List Oper}{o:Oper}{a:Act}{w:World}{Q:Exit->Act->World->Prop}(hg:o.guard=none)(ty:TypeId)(x i:Operand)(ho:o.op=.index ty x i)
  (v:Value) (hrun:(Instr.index ty (a.eval x) (a.eval i)).run P w=.ok v w) (h:wpList P ops Q rest (a.put o.dst v) w):wpList P ops Q (o::rest) a w:=by
 refine wpList_runTo' hg v w ?_ h
 unfold execOp
 simp only[ho,Sem.run_bind,Sem.run_pure,hrun,Result.andThen_ok]
theorem Uy (a0 a1 a2 a3 a4 a5:Value)(w:World):(Instr.index 89 (.agg #[a0,a1,a2,a3,a4,a5]) (.int .i64 0)).run Tryz.prog w=.ok a0 w:=by kernel_rfl
theorem Uz (a0 a1 a2 a3 a4 a5:Value)(w:World):(Instr.index 89 (.agg #[a0,a1,a2,a3,a4,a5]) (.int .i64 1)).run Tryz.prog w=.ok a1 w:=by kernel_rfl
theorem UA (a0 a1 a2 a3 a4 a5:Value)(w:World):(Instr.index 89 (.agg #[a0,a1,a2,a3,a4,a5]) (.int .i64 2)).run Tryz.prog w=.ok a2 w:=by kernel_rfl
theorem UB (a0 a1 a2 a3 a4 a5:Value)(w:World):(Instr.index 89 (.agg #[a0,a1,a2,a3,a4,a5]) (.int .i64 3)).run Tryz.prog w=.ok a3 w:=by kernel_rfl
theorem UC (a0 a1 a2 a3 a4 a5:Value)(w:World):(Instr.index 89 (.agg #[a0,a1,a2,a3,a4,a5]) (.int .i64 4)).run Tryz.prog w=.ok a4 w:=by kernel_rfl
theorem UD (a0 a1 a2 a3 a4 a5:Value)(w:World):(Instr.index 89 (.agg #[a0,a1,a2,a3,a4,a5]) (.int .i64 5)).run Tryz.prog w=.ok a5 w:=by kernel_rfl
theorem CV (b0 b1 b2 b3 b4 b5:Bool)(w:World) :
  Calls Tryz.prog 143 #[.agg #[.bool b0,.bool b1,.bool b2,.bool b3,.bool b4,.bool b5]] w fun e w'=>e=.returned (.int .i64 ((nTo [b0,b1,b2,b3,b4,b5] 6:Nat):Int))/\Below w.heap.size w w':=by
 have HB:=hide (aD w (.cells #[.bool b0,.bool b1,.bool b2,.bool b3,.bool b4,.bool b5] 89))
 go_enter Tryz.func143,Tryz.ntmps143
 go_wp2
 go_loop [3,7] (fun n a=>∃k:Nat,k<=6/\a=.int .i64 k/\n=.int .i64 ((nTo [b0,b1,b2,b3,b4,b5] k:Nat):Int)) (fun _ a=>6-(intOf a).toNat)
 case atStart=>exact ⟨0,by omega,rfl,rfl⟩
 case round =>
  obtain ⟨k,hk,rfl,rfl⟩:=hrel
  by_cases hlt:k<6
  ·have hc:k=0\/k=1\/k=2\/k=3\/k=4\/k=5:=by omega
   have hb:nTo [b0,b1,b2,b3,b4,b5] k<64:=by
    clear HB
    rcases hc with rfl|rfl|rfl|rfl|rfl|rfl<;>cases b0<;>cases b1<;>cases b2<;>cases b3<;>cases b4<;>cases b5<;>decide
   have hs:∀b,[b0,b1,b2,b3,b4,b5][k]?=some b->nTo [b0,b1,b2,b3,b4,b5] (k+1)=2*nTo [b0,b1,b2,b3,b4,b5] k+b.toNat:=fun b hb=>by
    unfold nTo;rw[List.take_add_one,hb];simp
   have HS:=hide hs
   clear hs
   generalize nTo [b0,b1,b2,b3,b4,b5] k=N at *
   rcases hc with rfl|rfl|rfl|rfl|rfl|rfl
   ·have HE:=hide (HS.out b0 rfl)
    clear HS
    cases b0
    all_goals (
     go_wp2_with (first|(refine pQ rfl 89 _ _ rfl _ (Uy _ _ _ _ _ _ _) ?_))
     go_round
     case rel=>exact ⟨1,by omega,rfl,by rw[HE.out];simp;try omega⟩
     case measure=>simp[intOf])
   ·have HE:=hide (HS.out b1 rfl)
    clear HS
    cases b1
    all_goals (
     go_wp2_with (first|(refine pQ rfl 89 _ _ rfl _ (Uz _ _ _ _ _ _ _) ?_))
     go_round
     case rel=>exact ⟨2,by omega,rfl,by rw[HE.out];simp;try omega⟩
     case measure=>simp[intOf])
   ·have HE:=hide (HS.out b2 rfl)
    clear HS
    cases b2
    all_goals (
     go_wp2_with (first|(refine pQ rfl 89 _ _ rfl _ (UA _ _ _ _ _ _ _) ?_))
     go_round
     case rel=>exact ⟨3,by omega,rfl,by rw[HE.out];simp;try omega⟩
     case measure=>simp[intOf])
   ·have HE:=hide (HS.out b3 rfl)
    clear HS
    cases b3
    all_goals (
     go_wp2_with (first|(refine pQ rfl 89 _ _ rfl _ (UB _ _ _ _ _ _ _) ?_))
     go_round
     case rel=>exact ⟨4,by omega,rfl,by rw[HE.out];simp;try omega⟩
     case measure=>simp[intOf])
   ·have HE:=hide (HS.out b4 rfl)
    clear HS
    cases b4
    all_goals (
     go_wp2_with (first|(refine pQ rfl 89 _ _ rfl _ (UC _ _ _ _ _ _ _) ?_))
     go_round
     case rel=>exact ⟨5,by omega,rfl,by rw[HE.out];simp;try omega⟩
     case measure=>simp[intOf])
   ·have HE:=hide (HS.out b5 rfl)
    clear HS
    cases b5
    all_goals (
     go_wp2_with (first|(refine pQ rfl 89 _ _ rfl _ (UD _ _ _ _ _ _ _) ?_))
     go_round
     case rel=>exact ⟨6,by omega,rfl,by rw[HE.out];simp;try omega⟩
     case measure=>simp[intOf])
  ·have e:k=6:=by omega
   subst e
   go_wp2
   go_ret
   exact ⟨rfl,HB.out⟩
theorem Ir (h:Nat)(w:World) :
  Calls Tryz.prog 143 #[.agg #[.bool (h.testBit 0),.bool (h.testBit 1),.bool (h.testBit 2),.bool (h.testBit 3),.bool (h.testBit 4),.bool (h.testBit 5)]] w fun e w'=>e=.returned (.int .i64 (hn h:Int))/\Below w.heap.size w w':=CV _ _ _ _ _ _ w
end
section
open Mc
theorem RZ (p:Nat)(b0 b1 b2 b3 b4 b5 off:Bool)(w:World)(hp:p<=20000) :
  Calls Tryz.prog 144 #[.agg #[.int .i64 (p:Int),.bool b0,.bool b1,.bool b2,.bool b3,.bool b4,.bool b5,.bool off]] w fun e w'=>e=.returned (.int .i64 (((p*128+2*nTo [b0,b1,b2,b3,b4,b5] 6+off.toNat:Nat)):Int))/\Below w.heap.size w w':=by
 have AN:=hide (fun W=>CV b0 b1 b2 b3 b4 b5 W)
 have hb:nTo [b0,b1,b2,b3,b4,b5] 6<64:=by cases b0<;>cases b1<;>cases b2<;>cases b3<;>cases b4<;>cases b5<;>decide
 generalize nTo [b0,b1,b2,b3,b4,b5] 6=N at *
 obtain ⟨uh,huh,hdh⟩:=Tryz.uHeldR
 have HUH:=hide huh
 have HDH:=hide hdh
 clear huh hdh
 have HR0:=hide (Row.new w #[.int .i64 (p:Int),.bool b0,.bool b1,.bool b2,.bool b3,.bool b4,.bool b5,.bool off] 91)
 have HB0:=hide (aD w (.cells #[.int .i64 (p:Int),.bool b0,.bool b1,.bool b2,.bool b3,.bool b4,.bool b5,.bool off] 91))
 cases off
 all_goals (
  go_enter Tryz.func144,Tryz.ntmps144
  go_wp2_with (first|(refine wpList_load_mid rfl 89 _ rfl _ _ rfl [.bool b0,.bool b1,.bool b2,.bool b3,.bool b4,.bool b5] uh ?_ HUH.out HDH.out Tryz.iHeld ?_;(exact HR0.out.zH))|(go_at_call 143;refine (AN.out _).mono ?_;rintro e w1 ⟨rfl,hb1⟩;have HR1:=hide (HR0.out.below hb1);have HB1:=hide (ak HB0.out hb1);have x0:=HR1.out.cell 0 (v:=.int .i64 (p:Int)) rfl;have x7:=HR1.out.cell 7 rfl;clear hb1))
  go_ret
  exact ⟨aO (by simp;try omega),HB1.out⟩)
theorem KT (p h:Nat)(off:Bool)(w:World)(hp:p<=20000) :
  Calls Tryz.prog 144 #[.agg (stA p h off)] w fun e w'=>e=.returned (.int .i64 (sn p h off:Int))/\Below w.heap.size w w':=RZ p _ _ _ _ _ _ off w hp
structure KG (g:Nat)(w w':World):Prop where
 below:Below 0 w w'
 same:∀k,k<w.heap.size->k≠g->w'.heap[k]?=w.heap[k]?
theorem KG.of {g:Nat}{w w':World}(h:Below w.heap.size w w'):KG g w w':=⟨h.mono (Nat.zero_le _),fun k hk _=>h.block k hk⟩
theorem KG.set {g:Nat}{x w:World}(h:KG g x w)(o:Nat)(v:Value):KG g x (w.setCell ⟨g,o,none⟩ v) :=
 ⟨h.below.trans ((Below.refl _ _).setCell (p:=⟨g,o,none⟩) (Nat.zero_le _) v),fun k hk e=>(heap_setCell_other w ⟨g,o,none⟩ k v e).trans (h.same k hk e)⟩
theorem EZ (w:World)(g n:Nat)(f:Nat->Bool)(p h:Nat)(off:Bool)(hn:n<=1000000)(hb:Blk w g n (fun i=>.bool (f i)))(hp:p<=20000)(hs:sn p h off<n) :
  Calls Tryz.prog 127 #[.slice (some ⟨g,0,none⟩) n n,.agg (stA p h off)] w fun e w'=>e=.returned (.bool (!f (sn p h off)))/\Blk w' g n (fun i=>.bool (decide (i=sn p h off)||f i))/\KG g w w':=by
 have AN:=hide (fun W=>KT p h off W hp)
 have HBK:=hide hb
 have hgl:=hb.lt
 generalize sn p h off=m at *
 have HR0:=hide (Row.new w (stA p h off) 91)
 have HB0:=hide (aD w (.cells (stA p h off) 91))
 have hm0:(0:Int)<=(m:Int):=by omega
 have hmn:(m:Int)<(n:Int):=by omega
 clear hb
 cases hf:f m
 all_goals (
  have HFM:=hide hf
  clear hf
  go_enter Tryz.func127,Tryz.ntmps127
  go_wp2_with (first|(refine wpList_load_row rfl 91 _ rfl _ rfl 91 (stA p h off) (0,0) _ ?_ Tryz.underlying91 rfl (Tryz.iStA _ _ _) ?_;(exact HR0.out.raw))|(go_at_call 144;refine (AN.out _).mono ?_;rintro e w1 ⟨rfl,hb1⟩;have HB1:=hide (ak HB0.out hb1);have HK1:=hide (HBK.out.below HB1.out);have x0:=HK1.out.cell m hs;have f0:=HK1.out.frozen m;rw[HFM.out] at x0;clear hb1))
  go_ret)
 ·refine ⟨rfl,(HK1.out.set m (.bool true)).congr fun i hi=>?_,(KG.of HB1.out).set m _⟩
  by_cases e:i=m
  ·subst e;simp
  ·simp[e]
 ·refine ⟨rfl,HK1.out.congr fun i hi=>?_,KG.of HB1.out⟩
  by_cases e:i=m
  ·subst e;simp[HFM.out]
  ·simp[e]
end
section
open Mc
theorem Tryz.iReached:(Tryz.prog.info? 130).map (·.size)=some 10:=by kernel_rfl
theorem Tryz.infoReached:(Tryz.prog.info? 130).map (fun i=>(i.zero,i.size,i.bytes))=some (some (.agg #[.int .i64 0,.bool false,.bool false,.bool false,.bool false,.bool false,.bool false,.bool false,.int .i64 0,.bool false]),10,32):=by kernel_rfl
theorem ze (w:World)(n:Nat)(hn:n<=1000000):(Instr.makeSlice 102 (.int .i64 n) (.int .i64 n)).run Tryz.prog w=.ok (.slice (some ⟨w.heap.size,0,none⟩) n n) (w.alloc (.cells (madeCells #[.bool false] n) 4)):=by
 obtain ⟨i,h1,h2,h3,h4⟩:=info_parts Tryz.infoBool
 have:=run_make w 102 4 i _ Tryz.underlying102 h1 h2 .i64 .i64 n n (by omega) (by omega) (by rw[h4];omega) (by omega)
 rw[this,h3];simp[Value.cells]
def rcV (r:Rc):List Value:=(stA r.p r.h r.off).toList++[.int .i64 (r.fr:Int),.bool r.comma]
def iA (L:List Rc):List Value:=L.flatMap rcV
theorem nC (r:Rc):(rcV r).length=10:=rfl
theorem OC (L:List Rc)(r:Rc):iA (L++[r])=iA L++rcV r:=by simp[iA]
theorem R3 (L:List Rc)(i j:Nat)(r:Rc)(h:L[i]?=some r)(hj:j<10):(iA L)[i*10+j]?=(rcV r)[j]?:=by
 induction L generalizing i with
 | nil=>simp at h
 | cons a l ih =>
  rw[iA,List.flatMap_cons]
  cases i with
  | zero =>
   simp at h;subst h
   rw[List.getElem?_append_left (by rw[nC];omega),Nat.zero_mul,Nat.zero_add]
  | succ i =>
   rw[List.getElem?_append_right (by rw[nC];omega),nC,show (i+1)*10+j-10=i*10+j by omega]
   exact ih i (by simpa using h)
theorem sj {w:World}{base:Nat}{v:Value}{L:List Rc}(h:w.ownsRow base 130 10 v L.length (iA L)){i:Nat}{r:Rc}(hr:L[i]?=some r):∃g cap,v=.slice (some ⟨g,0,none⟩) L.length cap/\base<=g/\g<w.heap.size/\L.length<=cap/\cap<=maxLen/\w.rangeAt g (i*10) (rcV r):=by
 have hi:=(List.getElem?_eq_some_iff.1 hr).1
 rcases h.2 with ⟨rfl,h0⟩ | ⟨g,cap,cur,rfl,hb,hg,h1,h2,h3,h4⟩
 ·omega
 ·refine ⟨g,cap,rfl,hb,bB hg,h1,h2,fun j u hj=>?_⟩
  have UE:j<10:=(List.getElem?_eq_some_iff.1 hj).1
  refine aj hg ?_
  have:=R3 L i j r hr UE
  rw[<-h4,List.getElem?_take,if_pos (by omega),Array.getElem?_toList,hj] at this
  exact this
theorem Fw (hd:Bool):stA 0 0 hd=#[.int .i64 0,.bool false,.bool false,.bool false,.bool false,.bool false,.bool false,.bool hd]:=by simp[stA]
theorem QG (hd:Bool):iA [⟨0,0,hd,0,false⟩]=#[.int .i64 0,.bool false,.bool false,.bool false,.bool false,.bool false,.bool false,.bool hd,.int .i64 0,.bool false].toList:=by simp[iA,rcV,Fw]
theorem QH (p h:Nat)(off:Bool):∃s0 s1 s2 s3 s4 s5 s6 s7:Value,stA p h off=#[s0,s1,s2,s3,s4,s5,s6,s7]/\(∀v∈[s0,s1,s2,s3,s4,s5,s6,s7],v.oneCell'=true):=⟨_,_,_,_,_,_,_,_,rfl,by simp[Value.oneCell']⟩
theorem QI (p h:Nat)(off:Bool):∃c0 c1 c2 c3 c4 c5:Bool,stA p h off=#[.int .i64 (p:Int),.bool c0,.bool c1,.bool c2,.bool c3,.bool c4,.bool c5,.bool off]:=⟨_,_,_,_,_,_,rfl⟩
def iP (hd:Bool)(b:List UInt8)(L:List Rc):Prop:=∃i f,RI hd b L i 0 f/\L.length<=i
theorem zf (w:World)(n:Nat):Blk (w.alloc (.cells (madeCells #[.bool false] n) 4)) w.heap.size n (fun i=>.bool false):=by
 refine ⟨_,_,heap_alloc_last _ _,fun i hi=>?_⟩
 rw[qZ _ _ _ hi]
 show some ((#[Value.bool false])[i%1]!)=_
 rw[Nat.mod_one];rfl
structure SIm (w0 w:World)(hd:Bool)(s:ByteArray)(lg gs N:Nat)(v:Value)(L:List Rc)(f:Nat->Bool):Prop where
 code:Row w w0.heap.size #[.bool hd,.string s,.slice (some ⟨lg,0,none⟩) s.size s.size] 88
 seen:Blk w gs N (fun i=>.bool (f i))
 own:w.ownsRow (w0.heap.size+1) 130 10 v L.length (iA L)
 ne:v.ownBlock≠some gs
 bel:Below w0.heap.size w0 w
 gt:w0.heap.size<gs
theorem SIm.mark {w0 w7 w8:World}{hd:Bool}{s:ByteArray}{lg gs N:Nat}{v:Value}{L:List Rc}{f':Nat->Bool}(h1:Row w7 w0.heap.size #[.bool hd,.string s,.slice (some ⟨lg,0,none⟩) s.size s.size] 88)(h2:w7.ownsRow (w0.heap.size+1) 130 10 v L.length (iA L))(h3:v.ownBlock≠some gs)(h4:Below w0.heap.size w0 w7)(h5:w0.heap.size<gs)(h6:Blk w8 gs N (fun i=>.bool (f' i)))(h7:KG gs w7 w8):SIm w0 w8 hd s lg gs N v L f':=by
 refine ⟨h1.same (h7.same _ h1.lt (by omega)),h6,?_,h3,h4.trans ⟨h7.below.os,h7.below.tape,h7.below.output,h7.below.size,fun k hk=>h7.same k (by have:=h1.lt;omega) (by omega)⟩,h5⟩
 refine ⟨h2.1,?_⟩
 rcases h2.2 with a2 | ⟨g',cap,cur,hv',hg,hh,r⟩
 ·exact .inl a2
 ·exact .inr ⟨g',cap,cur,hv',hg,by rw[h7.same g' (bB hh) (fun e=>h3 (by rw[hv',e];rfl))];exact hh,r⟩
theorem SIm.push {w0 w8 w9:World}{hd:Bool}{s:ByteArray}{lg gs N g cap cc':Nat}{ao':Option Addr}{L:List Rc}{r:Rc}{f:Nat->Bool}{o:Obj}(h:SIm w0 w8 hd s lg gs N (.slice (some ⟨g,0,none⟩) L.length cap) L f)(hg:(w8.alloc o).grownBy w9 (Value.slice (some ⟨g,0,none⟩) L.length cap).ownBlock)(hown:w9.ownsRow (w0.heap.size+1) 130 10 (.slice ao' (L.length+1) cc') (L.length+1) (iA L++rcV r))(hat:(Value.slice ao' (L.length+1) cc').ownBlock=(Value.slice (some ⟨g,0,none⟩) L.length cap).ownBlock\/(Value.slice ao' (L.length+1) cc').ownBlock=some (w8.alloc o).heap.size):SIm w0 w9 hd s lg gs N (.slice ao' (L.length+1) cc') (L++[r]) f:=by
 have hlt:=h.own.lt g rfl
 have hs:∀j,j<w8.heap.size->j≠g->w9.heap[j]?=w8.heap[j]?:=fun j hj hne=>yD hg j hj (fun e=>hne (by injection e with e;exact e.symm))
 have hne:gs≠g:=fun e=>h.ne (by rw[e];rfl)
 refine ⟨h.code.same (hs _ h.code.lt (by omega)),h.seen.same (hs _ h.seen.lt hne),?_,?_,?_,h.gt⟩
 ·rw[OC,List.length_append];exact hown
 ·rcases hat with e|e
  ·rw[e];exact h.ne
  ·rw[e]
   intro e2
   injection e2 with e2
   have:=h.seen.lt
   simp at e2;omega
 ·refine h.bel.trans (((Below.refl _ _).alloc (by have:=h.code.lt;omega) o).grown hg (by have:=h.code.lt;simp;omega) (fun q hq=>?_))
  have e:q=g:=by injection hq with hq;exact hq.symm
  omega
theorem JD (hd:Bool)(s:ByteArray)(lg:Nat)(w:World)(hs:s.size<=300)(hg:GB s.data.toList)(hL:Blk w lg s.size (fun i=>.int .i64 ((leads s.data.toList i:Nat):Int))) :
  Calls Tryz.prog 102 #[.agg #[.bool hd,.string s,.slice (some ⟨lg,0,none⟩) s.size s.size]] w fun e w'=>∃v L,e=.returned v/\w'.ownsRow (w.heap.size+1) 130 10 v L.length (iA L)/\iP hd s.data.toList L/\Below w.heap.size w w':=by
 have AB:=hide (fun W=>uS hd s (some ⟨lg,0,none⟩) s.size s.size W)
 have AE:=hide (fun W=>CG hd s (some ⟨lg,0,none⟩) s.size s.size W (by omega))
 have hmk:=fun W=>ze W ((s.size+1)*128) (by omega)
 have AM0:Hid (∀(W:World) (g:Nat),Blk W g ((s.size+1)*128) (fun i=>.bool false)->Calls Tryz.prog 127 #[.slice (some ⟨g,0,none⟩) ((s.size+1)*128) ((s.size+1)*128),.agg #[.int .i64 0,.bool false,.bool false,.bool false,.bool false,.bool false,.bool false,.bool hd]] W fun e w'=>e=.returned (.bool true)/\Blk w' g ((s.size+1)*128) (fun i=>.bool (decide (i=sn 0 0 hd)))/\KG g W w'):=by
  apply hide
  intro W g hb
  have:=EZ W g ((s.size+1)*128) (fun _=>false) 0 0 hd (by omega) hb (by omega) (zQ (by omega) (by omega))
  rw[Fw] at this
  simpa using this
 obtain ⟨i0,hj0,hz0,hz1,hz2⟩:=info_parts Tryz.infoReached
 have HC0:=hide (Row.new w #[.bool hd,.string s,.slice (some ⟨lg,0,none⟩) s.size s.size] 88)
 have HB0:=hide (aD w (.cells #[.bool hd,.string s,.slice (some ⟨lg,0,none⟩) s.size s.size] 88))
 have HL:=hide hL
 have HG:=hide hg
 have hls:=Wd.aI s
 obtain ⟨N,hN⟩:∃N:Nat,(s.size+1)*128=N:=⟨_,rfl⟩
 have hn1:((s.size:Int)+1)*128=(N:Int):=by omega
 have hn2:IntKind.i64.wrap (((s.size:Int)+1)*128)=(N:Int):=by rw[IntKind.wrap_i64];omega
 rw[hN] at AM0
 simp only[hN] at hmk
 have HN:=hide hN
 clear hN
 clear hL hg
 go_enter Tryz.func102,Tryz.ntmps102
 go_wp2_with (first|(go_at_call 127;refine (AM0.out _ _ (zf w4 _)).mono ?_;rintro e w5 ⟨rfl,GX,hk5⟩)|(refine wpList_load_row rfl 88 _ rfl _ rfl 88 #[.bool hd,.string s,.slice (some ⟨lg,0,none⟩) s.size s.size] (0,0) _ ?_ Tryz.underlying88 rfl Tryz.iCode ?_;(exact (HC2.out.alloc _).raw))|(refine wpList_load_row rfl 91 _ rfl _ rfl 91 #[.int .i64 0,.bool false,.bool false,.bool false,.bool false,.bool false,.bool false,.bool hd] (0,0) _ ?_ Tryz.underlying91 rfl Tryz.iState ?_;(exact (HS4.out.alloc _).raw))|(refine wpList_load_row rfl 91 _ rfl _ rfl 91 #[.int .i64 0,.bool false,.bool false,.bool false,.bool false,.bool false,.bool false,.bool hd] (0,0) _ ?_ Tryz.underlying91 rfl Tryz.iState ?_;(exact HS2.out.raw))|(go_at_call 124;refine (AE.out _).mono ?_;rintro e w4 ⟨rfl,hb4⟩;have HC4:=hide ((HC2.out.alloc (.cells #[.int .i64 0,.bool false,.bool false,.bool false,.bool false,.bool false,.bool false,.bool hd,.int .i64 0,.bool false] 130)).below hb4);have HS4:=hide ((HS2.out.alloc (.cells #[.int .i64 0,.bool false,.bool false,.bool false,.bool false,.bool false,.bool false,.bool hd,.int .i64 0,.bool false] 130)).below hb4);have HQ4:=hide ((Row.new w2 #[.int .i64 0,.bool false,.bool false,.bool false,.bool false,.bool false,.bool false,.bool hd,.int .i64 0,.bool false] 130).below hb4);have HB4:=hide (ak (aL HB2.out (.cells #[.int .i64 0,.bool false,.bool false,.bool false,.bool false,.bool false,.bool false,.bool hd,.int .i64 0,.bool false] 130)) hb4);clear hb4)|(refine wpList_store_row rfl 91 _ _ rfl w1.heap.size #[.int .i64 0,.bool false,.bool false,.bool false,.bool false,.bool false,.bool false,.bool hd] rfl rfl 91 #[.int .i64 0,.bool false,.bool false,.bool false,.bool false,.bool false,.bool false,.bool false] ?_ Tryz.iState rfl (by simp[Value.oneCell']) ?_;(exact (Row.new w1 #[.int .i64 0,.bool false,.bool false,.bool false,.bool false,.bool false,.bool false,.bool false] 91).raw);rw[World.setRow_alloc_new];have HC2:=hide (HC1.out.alloc (.cells #[.int .i64 0,.bool false,.bool false,.bool false,.bool false,.bool false,.bool false,.bool hd] 91));have HS2:=hide (Row.new w1 #[.int .i64 0,.bool false,.bool false,.bool false,.bool false,.bool false,.bool false,.bool hd] 91);have HB2:=hide (aL HB1.out (.cells #[.int .i64 0,.bool false,.bool false,.bool false,.bool false,.bool false,.bool false,.bool hd] 91));generalize w1.alloc (.cells #[.int .i64 0,.bool false,.bool false,.bool false,.bool false,.bool false,.bool false,.bool hd] 91)=w2 at *;skip)|(go_at_call 104;refine (AB.out _).mono ?_;rintro e w1 ⟨rfl,hb1⟩;have HC1:=hide (HC0.out.below hb1);have HB1:=hide (ak HB0.out hb1);have hq1:w.heap.size<w1.heap.size:=HC1.out.lt;clear hb1))
 have HW5:Hid (SIm w w5 hd s lg w4.heap.size N (.slice (some ⟨w2.heap.size,0,none⟩) 1 1) [⟨0,0,hd,0,false⟩] (fun i=>decide (i=sn 0 0 hd))):=by
  have hl2:w2.heap.size<w4.heap.size:=HQ4.out.lt
  have h5:∀k,k<w4.heap.size->w5.heap[k]?=w4.heap[k]?:=fun k hk=>by
   rw[hk5.same k (by simp;omega) (by omega),heap_alloc_old _ _ hk]
  have hl1:w.heap.size<w2.heap.size:=HC2.out.lt
  refine hide ⟨HC4.out.same (h5 _ (by omega)),GX,⟨rfl,.inr ⟨w2.heap.size,1,_,rfl,by omega,(HQ4.out.same (h5 _ hl2)).raw,by simp,by decide,rfl,(QG hd).symm⟩⟩,fun e=>by simp[Value.ownBlock] at e;omega,?_,by omega⟩
  refine HB4.out.trans ⟨hk5.below.os,hk5.below.tape,hk5.below.output,Nat.le_trans (by simp) hk5.below.size,fun k hk=>h5 k (by omega)⟩
 have HRI:=hide (RI.beg (hd:=hd) (b:=s.data.toList) (f:=fun i=>decide (i=sn 0 0 hd)) (fun m=>rfl))
 clear HC0 HB0 HC1 HB1 HC2 HS2 HB2 HC4 HS4 HQ4 HB4 GX hk5 AB AE AM0 hmk
 generalize w4.heap.size=gs at *
 go_loopw [4,6] (fun a c wr=>∃(i:Nat) (L:List Rc) (f:Nat->Bool),c=.int .i64 i/\SIm w wr hd s lg gs N a L f/\RI hd s.data.toList L i 0 f/\i<=L.length) (fun _ c _=>N-(intOf c).toNat)
 case atStart=>exact ⟨0,_,_,rfl,HW5.out,HRI.out,by simp⟩
 case round =>
  clear HW5 HRI
  obtain ⟨i,L,f,rfl,hm,hri,hil⟩:=hrel
  have HM:=hide hm
  have HR:=hide hri
  clear hm hri
  have hlen:L.length<=N:=by have:=HR.out.len HG.out;rw[hls,HN.out] at this;exact this
  have hNb:N<=100000:=by have:=HN.out;omega
  obtain ⟨ao,cc,hv⟩:=bq HM.out.own
  subst hv
  by_cases hlt:i<L.length
  ·go_wp2
   go_loopw [4,7] (fun a c wr=>∃(way:Nat) (L:List Rc) (f:Nat->Bool),way<=2/\c=.int .i64 way/\SIm w wr hd s lg gs N a L f/\i<L.length/\(way=0->RI hd s.data.toList L i 0 f)/\(way=1->RI hd s.data.toList L i 1 f)/\(way=2->RI hd s.data.toList L (i+1) 0 f)) (fun _ c _=>2-(intOf c).toNat)
   case atStart=>exact ⟨0,L,f,by omega,rfl,HM.out,hlt,fun _=>HR.out,fun h=>by omega,fun h=>by omega⟩
   case round =>
    clear HM HR hil hlen hlt
    obtain ⟨way,L,f,hw2,rfl,hm,hil,hr0,hr1,hr2⟩:=hrel
    have HM:=hide hm
    have HR0:=hide hr0
    have HR1:=hide hr1
    have HR2:=hide hr2
    clear hm hr0 hr1 hr2
    obtain ⟨q,hq⟩:∃q,L[i]?=some q:=⟨_,List.getElem?_eq_getElem hil⟩
    have HQ:=hide hq
    by_cases hlt:way<2
    ·have hRI:∃k,RI hd s.data.toList L i k f:=by
      rcases (show way=0\/way=1 by omega) with e|e
      ·exact ⟨0,HR0.out e⟩
      ·exact ⟨1,HR1.out e⟩
     obtain ⟨kk,hRI⟩:=hRI
     have hqo:=hRI.ok HG.out (List.mem_of_getElem? hq)
     have hlen:L.length<=N:=by have:=hRI.len HG.out;rw[hls,HN.out] at this;exact this
     have hpl:q.p<=300:=by have:=hqo.2.le;rw[hls] at this;exact Nat.le_trans this hs
     obtain ⟨sp,sh,so,lt,hst⟩:∃sp sh so lt,aS hd s.data.toList q.p q.h q.off (way==1)=((sp,sh,so),lt):=⟨_,_,_,_,rfl⟩
     have hstp:stp hd s.data.toList q.st (way==1)=(sp,sh,so):=by unfold stp;exact congrArg Prod.fst hst
     have hso:SOK s.data.toList (sp,sh,so):=by rw[<-hstp];exact hqo.stp HG.out _
     have V3:sp<=300:=by have:=hso.2.le;rw[hls] at this;exact Nat.le_trans this hs
     have hsn:sn sp sh so<N:=by have:=zQ (n:=s.size) (off:=so) hso.1 (by have:=hso.2.le;rwa [hls] at this);rw[HN.out] at this;exact this
     have AS:=hide (fun W hW=>uD hd s lg q.p q.h q.off (way==1) W (by omega) (by omega) hqo.1 HG.out.pair (HG.out.stands hqo.2) hW)
     rw[hst] at AS
     have AM:=hide (fun W hW=>EZ W gs N f sp sh so (by omega) hW (by omega) hsn)
     obtain ⟨g,cap,hv,hgb,hgw,hcap1,hcap2,hrg⟩:=sj HM.out.own hq
     unfold maxLen at hcap2
     have HST:=hide hstp
     have HSO:=hide hso
     have hlw:w.heap.size<wr.heap.size:=HM.out.code.lt
     subst hv
     obtain ⟨s0,s1,s2,s3,s4,s5,s6,s7,hsv,_⟩:=QH q.p q.h q.off
     obtain ⟨c0,c1,c2,c3,c4,c5,hnv⟩:=QI sp sh so
     rw[rcV,hsv] at hrg
     rw[hsv] at AS
     rw[hnv] at AS AM
     have HNV:=hide hnv
     have HRK:=hide hRI
     clear hqo hst hstp hso hsv hnv hq hRI hsn
     have hi0:(0:Int)<=(i:Int):=by omega
     have hi1:(i:Int)<(L.length:Int):=by omega
     have nQ:((way:Int)==1)=(way==1):=by rcases (show way=0\/way=1 by omega) with e|e<;>subst e<;>rfl
     generalize (way==1)=cm at *
     have HBL:=hide (HL.out.below HM.out.bel)
     have y0:wr.cell? ⟨w.heap.size,0,none⟩=some (.bool hd):=HM.out.code.cell 0 rfl
     have y1:wr.cell? ⟨w.heap.size,1,none⟩=some (.string s):=HM.out.code.cell 1 rfl
     have y2:wr.cell? ⟨w.heap.size,2,none⟩=some (.slice (some ⟨lg,0,none⟩) s.size s.size):=HM.out.code.cell 2 rfl
     have z0:wr.cell? ⟨g,i*10,none⟩=some s0:=hrg 0 _ rfl
     have z1:wr.cell? ⟨g,i*10+1,none⟩=some s1:=hrg 1 _ rfl
     have z2:wr.cell? ⟨g,i*10+2,none⟩=some s2:=hrg 2 _ rfl
     have z3:wr.cell? ⟨g,i*10+3,none⟩=some s3:=hrg 3 _ rfl
     have z4:wr.cell? ⟨g,i*10+4,none⟩=some s4:=hrg 4 _ rfl
     have z5:wr.cell? ⟨g,i*10+5,none⟩=some s5:=hrg 5 _ rfl
     have z6:wr.cell? ⟨g,i*10+6,none⟩=some s6:=hrg 6 _ rfl
     have z7:wr.cell? ⟨g,i*10+7,none⟩=some s7:=hrg 7 _ rfl
     clear hrg
     have hne1:w.heap.size≠wr.heap.size:=by omega
     have hne2:g≠wr.heap.size:=by omega
     have KEEP:Hid (∀W' w6,W'=((((((((w6.setCell ⟨wr.heap.size,0,none⟩ (.int .i64 (sp:Int))).setCell ⟨wr.heap.size,1,none⟩ (.bool c0)).setCell ⟨wr.heap.size,2,none⟩ (.bool c1)).setCell ⟨wr.heap.size,3,none⟩ (.bool c2)).setCell ⟨wr.heap.size,4,none⟩ (.bool c3)).setCell ⟨wr.heap.size,5,none⟩ (.bool c4)).setCell ⟨wr.heap.size,6,none⟩ (.bool c5)).setCell ⟨wr.heap.size,7,none⟩ (.bool so))->Below wr.heap.size wr w6->W'.cell? ⟨w.heap.size,0,none⟩=some (.bool hd)/\W'.cell? ⟨w.heap.size,1,none⟩=some (.string s)/\W'.cell? ⟨w.heap.size,2,none⟩=some (.slice (some ⟨lg,0,none⟩) s.size s.size)/\W'.cell? ⟨g,i*10,none⟩=some s0/\W'.cell? ⟨g,i*10+1,none⟩=some s1/\W'.cell? ⟨g,i*10+2,none⟩=some s2/\W'.cell? ⟨g,i*10+3,none⟩=some s3/\W'.cell? ⟨g,i*10+4,none⟩=some s4/\W'.cell? ⟨g,i*10+5,none⟩=some s5/\W'.cell? ⟨g,i*10+6,none⟩=some s6/\W'.cell? ⟨g,i*10+7,none⟩=some s7):=by
      apply hide
      rintro _ w6 rfl hb
      exact ⟨by rw[ay hne1,ay hne1,ay hne1,ay hne1,ay hne1,ay hne1,ay hne1,ay hne1];exact (hb.cell (p:=⟨w.heap.size,0,none⟩) hlw).trans y0,by rw[ay hne1,ay hne1,ay hne1,ay hne1,ay hne1,ay hne1,ay hne1,ay hne1];exact (hb.cell (p:=⟨w.heap.size,1,none⟩) hlw).trans y1,by rw[ay hne1,ay hne1,ay hne1,ay hne1,ay hne1,ay hne1,ay hne1,ay hne1];exact (hb.cell (p:=⟨w.heap.size,2,none⟩) hlw).trans y2,by rw[ay hne2,ay hne2,ay hne2,ay hne2,ay hne2,ay hne2,ay hne2,ay hne2];exact (hb.cell (p:=⟨g,i*10,none⟩) hgw).trans z0,by rw[ay hne2,ay hne2,ay hne2,ay hne2,ay hne2,ay hne2,ay hne2,ay hne2];exact (hb.cell (p:=⟨g,i*10+1,none⟩) hgw).trans z1,by rw[ay hne2,ay hne2,ay hne2,ay hne2,ay hne2,ay hne2,ay hne2,ay hne2];exact (hb.cell (p:=⟨g,i*10+2,none⟩) hgw).trans z2,by rw[ay hne2,ay hne2,ay hne2,ay hne2,ay hne2,ay hne2,ay hne2,ay hne2];exact (hb.cell (p:=⟨g,i*10+3,none⟩) hgw).trans z3,by rw[ay hne2,ay hne2,ay hne2,ay hne2,ay hne2,ay hne2,ay hne2,ay hne2];exact (hb.cell (p:=⟨g,i*10+4,none⟩) hgw).trans z4,by rw[ay hne2,ay hne2,ay hne2,ay hne2,ay hne2,ay hne2,ay hne2,ay hne2];exact (hb.cell (p:=⟨g,i*10+5,none⟩) hgw).trans z5,by rw[ay hne2,ay hne2,ay hne2,ay hne2,ay hne2,ay hne2,ay hne2,ay hne2];exact (hb.cell (p:=⟨g,i*10+6,none⟩) hgw).trans z6,by rw[ay hne2,ay hne2,ay hne2,ay hne2,ay hne2,ay hne2,ay hne2,ay hne2];exact (hb.cell (p:=⟨g,i*10+7,none⟩) hgw).trans z7⟩
     go_wp2_with fail
     go_region_held3 (fun W'=>W'.cell? ⟨w.heap.size,0,none⟩=some (.bool hd)/\W'.cell? ⟨w.heap.size,1,none⟩=some (.string s)/\W'.cell? ⟨w.heap.size,2,none⟩=some (.slice (some ⟨lg,0,none⟩) s.size s.size)/\W'.cell? ⟨g,i*10,none⟩=some s0/\W'.cell? ⟨g,i*10+1,none⟩=some s1/\W'.cell? ⟨g,i*10+2,none⟩=some s2/\W'.cell? ⟨g,i*10+3,none⟩=some s3/\W'.cell? ⟨g,i*10+4,none⟩=some s4/\W'.cell? ⟨g,i*10+5,none⟩=some s5/\W'.cell? ⟨g,i*10+6,none⟩=some s6/\W'.cell? ⟨g,i*10+7,none⟩=some s7) (first|exact KEEP.out _ w6 (by with_reducible rfl) iQ|go_keep) (first|(go_at_call 128;refine (AS.out _ (by first|exact HBL.out.below ((Below.refl _ _).drew)|exact HBL.out.below ((aD _ _).drew))).mono ?_;rintro e w6 ⟨rfl,hb6⟩;have iQ:Below wr.heap.size wr w6:=(by first|exact ak ((Below.refl wr.heap.size wr).drew) hb6|exact ak ((aD wr _).drew) hb6);(first|(have AR:=hide (((Row.new wr #[.int .i64 0,.bool false,.bool false,.bool false,.bool false,.bool false,.bool false,.bool false] 91).below ((Below.refl _ _).drew)).below hb6);have ac0:=AR.out.cell 0 rfl;have af0:=AR.out.frozen 0;have ac1:=AR.out.cell 1 rfl;have af1:=AR.out.frozen 1;have ac2:=AR.out.cell 2 rfl;have af2:=AR.out.frozen 2;have ac3:=AR.out.cell 3 rfl;have af3:=AR.out.frozen 3;have ac4:=AR.out.cell 4 rfl;have af4:=AR.out.frozen 4;have ac5:=AR.out.cell 5 rfl;have af5:=AR.out.frozen 5;have ac6:=AR.out.cell 6 rfl;have af6:=AR.out.frozen 6;have ac7:=AR.out.cell 7 rfl;have af7:=AR.out.frozen 7)|skip);have yy0:w6.cell? ⟨w.heap.size,0,none⟩=some (.bool hd):=(iQ.cell (p:=⟨w.heap.size,0,none⟩) hlw).trans y0;have yy1:w6.cell? ⟨w.heap.size,1,none⟩=some (.string s):=(iQ.cell (p:=⟨w.heap.size,1,none⟩) hlw).trans y1;have yy2:w6.cell? ⟨w.heap.size,2,none⟩=some (.slice (some ⟨lg,0,none⟩) s.size s.size):=(iQ.cell (p:=⟨w.heap.size,2,none⟩) hlw).trans y2;have zz0:w6.cell? ⟨g,i*10,none⟩=some s0:=(iQ.cell (p:=⟨g,i*10,none⟩) hgw).trans z0;have zz1:w6.cell? ⟨g,i*10+1,none⟩=some s1:=(iQ.cell (p:=⟨g,i*10+1,none⟩) hgw).trans z1;have zz2:w6.cell? ⟨g,i*10+2,none⟩=some s2:=(iQ.cell (p:=⟨g,i*10+2,none⟩) hgw).trans z2;have zz3:w6.cell? ⟨g,i*10+3,none⟩=some s3:=(iQ.cell (p:=⟨g,i*10+3,none⟩) hgw).trans z3;have zz4:w6.cell? ⟨g,i*10+4,none⟩=some s4:=(iQ.cell (p:=⟨g,i*10+4,none⟩) hgw).trans z4;have zz5:w6.cell? ⟨g,i*10+5,none⟩=some s5:=(iQ.cell (p:=⟨g,i*10+5,none⟩) hgw).trans z5;have zz6:w6.cell? ⟨g,i*10+6,none⟩=some s6:=(iQ.cell (p:=⟨g,i*10+6,none⟩) hgw).trans z6;have zz7:w6.cell? ⟨g,i*10+7,none⟩=some s7:=(iQ.cell (p:=⟨g,i*10+7,none⟩) hgw).trans z7))
     ·have HS7:=hide (Row.new w6 #[.int .i64 (sp:Int),.bool c0,.bool c1,.bool c2,.bool c3,.bool c4,.bool c5,.bool so] 91)
      have HB7:=hide (aL iQ (.cells #[.int .i64 (sp:Int),.bool c0,.bool c1,.bool c2,.bool c3,.bool c4,.bool c5,.bool so] 91))
      clear yy0 yy1 yy2 zz0 zz1 zz2 zz3 zz4 zz5 zz6 zz7 y0 y1 y2 z0 z1 z2 z3 z4 z5 z6 z7 hb6 KEEP
      generalize w6.alloc (.cells #[.int .i64 (sp:Int),.bool c0,.bool c1,.bool c2,.bool c3,.bool c4,.bool c5,.bool so] 91)=w7 at *
      have HC7:=hide (HM.out.code.below HB7.out)
      have HO7:=hide (fO HM.out.own (fun j _ hj=>HB7.out.block j hj))
      have HK7:=hide (HM.out.seen.below HB7.out)
      have HW7:=hide (HM.out.bel.trans (HB7.out.mono (by omega)))
      cases hf:f (sn sp sh so)
      ·rw[hf] at AM
       go_wp2_with (first|(at_builtin;refine wpList_append_own_at _ rfl _ _ 125 rfl (w.heap.size+1) 130 i0 _ 10 32 Tryz.underlying125 hj0 hz0 hz1 hz2 rfl (by decide) _ L.length (iA L) rfl ?_ ⟨_,0,none⟩ 1 1 [.int .i64 (sp:Int),.bool c0,.bool c1,.bool c2,.bool c3,.bool c4,.bool c5,.bool so,.int .i64 (i:Int),.bool cm] rfl rfl ?_ ?_ ?_ ?_ ?_ ?_;(exact HM8.out.own.alloc _);(exact eZ _ _ _);(intro x hx;simp at hx;rcases hx with rfl|rfl|rfl|rfl|rfl|rfl|rfl|rfl|rfl|rfl<;>rfl);(unfold maxLen;omega);(omega);(have:=HM8.out.code.lt;simp;omega);intro v' w9 hown' hgrow hnil hat;obtain ⟨ao',cc',hv'⟩:=bq hown';subst hv';have HG9:=hide hgrow;have HO9:=hide hown';have HA9:=hide hat;clear hown' hgrow hnil hat)|(refine wpList_load_row rfl 91 _ rfl _ rfl 91 #[.int .i64 (sp:Int),.bool c0,.bool c1,.bool c2,.bool c3,.bool c4,.bool c5,.bool so] (0,0) _ ?_ Tryz.underlying91 rfl Tryz.iState ?_;(exact HS8.out.raw))|(refine wpList_load_row rfl 91 _ rfl _ rfl 91 #[.int .i64 (sp:Int),.bool c0,.bool c1,.bool c2,.bool c3,.bool c4,.bool c5,.bool so] (0,0) _ ?_ Tryz.underlying91 rfl Tryz.iState ?_;(exact HS7.out.raw))|(go_at_call 127;refine (AM.out _ HK7.out).mono ?_;rintro e w8 ⟨rfl,mU,hk8⟩;have HM8:Hid (SIm w w8 hd s lg gs N (.slice (some ⟨g,0,none⟩) L.length cap) L (fun x=>decide (x=sn sp sh so)||f x)):=hide (SIm.mark HC7.out HO7.out HM.out.ne HW7.out HM.out.gt mU hk8);have HS8:=hide (HS7.out.same (hk8.same _ HS7.out.lt (by have:=HM.out.seen.lt;have:=iQ.size;omega)));clear mU hk8))
       have hm9:SIm w w9 hd s lg gs N (.slice ao' (L.length+1) cc') (L++[⟨sp,sh,so,i,cm⟩]) (fun x=>decide (x=sn sp sh so)||f x):=SIm.push HM8.out HG9.out (by rw[rcV,HNV.out] ;exact HO9.out) HA9.out
       have hri:∀k,RI hd s.data.toList L i k f->RI hd s.data.toList (L++[⟨sp,sh,so,i,cm⟩]) i k (fun x=>decide (x=sn sp sh so)||f x):=fun k h=>h.push HQ.out cm HST.out hf
       have hq2:(L++[(⟨sp,sh,so,i,cm⟩:Rc)])[i]?=some q:=by rw[List.getElem?_append_left hil];exact HQ.out
       have hsb:∃r∈L++[(⟨sp,sh,so,i,cm⟩:Rc)],r.st=stp hd s.data.toList q.st cm:=⟨⟨sp,sh,so,i,cm⟩,by simp,HST.out.symm⟩
       have sU:i<(L++[(⟨sp,sh,so,i,cm⟩:Rc)]).length:=by simp;omega
       rcases (show way=0\/way=1 by omega) with e|e
       ·subst e
        have hcm:cm=false:=by rw[<-nQ];rfl
        subst hcm
        refine ⟨⟨1,_,_,by omega,by go_num,hm9,sU,fun h=>by omega,fun _=>(hri 0 (HR0.out rfl)).to1 hq2 hsb,fun h=>by omega⟩,by simp[intOf]⟩
       ·subst e
        have hcm:cm=true:=by rw[<-nQ];rfl
        subst hcm
        refine ⟨⟨2,_,_,by omega,by go_num,hm9,sU,fun h=>by omega,fun h=>by omega,fun _=>(hri 1 (HR1.out rfl)).to0 hq2 hsb⟩,by simp[intOf]⟩
      ·rw[hf] at AM
       go_wp2_with (first|(refine wpList_load_row rfl 91 _ rfl _ rfl 91 #[.int .i64 (sp:Int),.bool c0,.bool c1,.bool c2,.bool c3,.bool c4,.bool c5,.bool so] (0,0) _ ?_ Tryz.underlying91 rfl Tryz.iState ?_;(exact HS7.out.raw))|(go_at_call 127;refine (AM.out _ HK7.out).mono ?_;rintro e w8 ⟨rfl,mU,hk8⟩))
       have hm8:SIm w w8 hd s lg gs N (.slice (some ⟨g,0,none⟩) L.length cap) L (fun x=>decide (x=sn sp sh so)||f x):=SIm.mark HC7.out HO7.out HM.out.ne HW7.out HM.out.gt mU hk8
       have hsb:∃r∈L,r.st=stp hd s.data.toList q.st cm:=by rw[HST.out];exact HRK.out.Gh HG.out HSO.out hf
       rcases (show way=0\/way=1 by omega) with e|e
       ·subst e
        have hcm:cm=false:=by rw[<-nQ];rfl
        subst hcm
        refine ⟨⟨1,L,_,by omega,by go_num,hm8,hil,fun h=>by omega,fun _=>((HR0.out rfl).same hf).to1 HQ.out hsb,fun h=>by omega⟩,by simp[intOf]⟩
       ·subst e
        have hcm:cm=true:=by rw[<-nQ];rfl
        subst hcm
        refine ⟨⟨2,L,_,by omega,by go_num,hm8,hil,fun h=>by omega,fun h=>by omega,fun _=>((HR1.out rfl).same hf).to0 HQ.out hsb⟩,by simp[intOf]⟩
     ·have HS7:Hid (Row ((((((((w6.setCell ⟨wr.heap.size,0,none⟩ (.int .i64 (sp:Int))).setCell ⟨wr.heap.size,1,none⟩ (.bool c0)).setCell ⟨wr.heap.size,2,none⟩ (.bool c1)).setCell ⟨wr.heap.size,3,none⟩ (.bool c2)).setCell ⟨wr.heap.size,4,none⟩ (.bool c3)).setCell ⟨wr.heap.size,5,none⟩ (.bool c4)).setCell ⟨wr.heap.size,6,none⟩ (.bool c5)).setCell ⟨wr.heap.size,7,none⟩ (.bool so)) wr.heap.size #[.int .i64 (sp:Int),.bool c0,.bool c1,.bool c2,.bool c3,.bool c4,.bool c5,.bool so] 91):=by
       apply hide
       have:=((((((((AR.out.set 0 (.int .i64 (sp:Int))).set 1 (.bool c0)).set 2 (.bool c1)).set 3 (.bool c2)).set 4 (.bool c3)).set 5 (.bool c4)).set 6 (.bool c5)).set 7 (.bool so))
       simpa using this
      have HB7:=hide ((((((((iQ.setCell (p:=⟨wr.heap.size,0,none⟩) (Nat.le_refl _) (.int .i64 (sp:Int))).setCell (p:=⟨wr.heap.size,1,none⟩) (Nat.le_refl _) (.bool c0)).setCell (p:=⟨wr.heap.size,2,none⟩) (Nat.le_refl _) (.bool c1)).setCell (p:=⟨wr.heap.size,3,none⟩) (Nat.le_refl _) (.bool c2)).setCell (p:=⟨wr.heap.size,4,none⟩) (Nat.le_refl _) (.bool c3)).setCell (p:=⟨wr.heap.size,5,none⟩) (Nat.le_refl _) (.bool c4)).setCell (p:=⟨wr.heap.size,6,none⟩) (Nat.le_refl _) (.bool c5)).setCell (p:=⟨wr.heap.size,7,none⟩) (Nat.le_refl _) (.bool so))
      clear yy0 yy1 yy2 zz0 zz1 zz2 zz3 zz4 zz5 zz6 zz7 y0 y1 y2 z0 z1 z2 z3 z4 z5 z6 z7 hb6 KEEP ac0 af0 ac1 af1 ac2 af2 ac3 af3 ac4 af4 ac5 af5 ac6 af6 ac7 af7
      generalize ((((((((w6.setCell ⟨wr.heap.size,0,none⟩ (.int .i64 (sp:Int))).setCell ⟨wr.heap.size,1,none⟩ (.bool c0)).setCell ⟨wr.heap.size,2,none⟩ (.bool c1)).setCell ⟨wr.heap.size,3,none⟩ (.bool c2)).setCell ⟨wr.heap.size,4,none⟩ (.bool c3)).setCell ⟨wr.heap.size,5,none⟩ (.bool c4)).setCell ⟨wr.heap.size,6,none⟩ (.bool c5)).setCell ⟨wr.heap.size,7,none⟩ (.bool so))=w7 at *
      have HC7:=hide (HM.out.code.below HB7.out)
      have HO7:=hide (fO HM.out.own (fun j _ hj=>HB7.out.block j hj))
      have HK7:=hide (HM.out.seen.below HB7.out)
      have HW7:=hide (HM.out.bel.trans (HB7.out.mono (by omega)))
      cases hf:f (sn sp sh so)
      ·rw[hf] at AM
       go_wp2_with (first|(at_builtin;refine wpList_append_own_at _ rfl _ _ 125 rfl (w.heap.size+1) 130 i0 _ 10 32 Tryz.underlying125 hj0 hz0 hz1 hz2 rfl (by decide) _ L.length (iA L) rfl ?_ ⟨_,0,none⟩ 1 1 [.int .i64 (sp:Int),.bool c0,.bool c1,.bool c2,.bool c3,.bool c4,.bool c5,.bool so,.int .i64 (i:Int),.bool cm] rfl rfl ?_ ?_ ?_ ?_ ?_ ?_;(exact HM8.out.own.alloc _);(exact eZ _ _ _);(intro x hx;simp at hx;rcases hx with rfl|rfl|rfl|rfl|rfl|rfl|rfl|rfl|rfl|rfl<;>rfl);(unfold maxLen;omega);(omega);(have:=HM8.out.code.lt;simp;omega);intro v' w9 hown' hgrow hnil hat;obtain ⟨ao',cc',hv'⟩:=bq hown';subst hv';have HG9:=hide hgrow;have HO9:=hide hown';have HA9:=hide hat;clear hown' hgrow hnil hat)|(refine wpList_load_row rfl 91 _ rfl _ rfl 91 #[.int .i64 (sp:Int),.bool c0,.bool c1,.bool c2,.bool c3,.bool c4,.bool c5,.bool so] (0,0) _ ?_ Tryz.underlying91 rfl Tryz.iState ?_;(exact HS8.out.raw))|(refine wpList_load_row rfl 91 _ rfl _ rfl 91 #[.int .i64 (sp:Int),.bool c0,.bool c1,.bool c2,.bool c3,.bool c4,.bool c5,.bool so] (0,0) _ ?_ Tryz.underlying91 rfl Tryz.iState ?_;(exact HS7.out.raw))|(go_at_call 127;refine (AM.out _ HK7.out).mono ?_;rintro e w8 ⟨rfl,mU,hk8⟩;have HM8:Hid (SIm w w8 hd s lg gs N (.slice (some ⟨g,0,none⟩) L.length cap) L (fun x=>decide (x=sn sp sh so)||f x)):=hide (SIm.mark HC7.out HO7.out HM.out.ne HW7.out HM.out.gt mU hk8);have HS8:=hide (HS7.out.same (hk8.same _ HS7.out.lt (by have:=HM.out.seen.lt;have:=iQ.size;omega)));clear mU hk8))
       have hm9:SIm w w9 hd s lg gs N (.slice ao' (L.length+1) cc') (L++[⟨sp,sh,so,i,cm⟩]) (fun x=>decide (x=sn sp sh so)||f x):=SIm.push HM8.out HG9.out (by rw[rcV,HNV.out] ;exact HO9.out) HA9.out
       have hri:∀k,RI hd s.data.toList L i k f->RI hd s.data.toList (L++[⟨sp,sh,so,i,cm⟩]) i k (fun x=>decide (x=sn sp sh so)||f x):=fun k h=>h.push HQ.out cm HST.out hf
       have hq2:(L++[(⟨sp,sh,so,i,cm⟩:Rc)])[i]?=some q:=by rw[List.getElem?_append_left hil];exact HQ.out
       have hsb:∃r∈L++[(⟨sp,sh,so,i,cm⟩:Rc)],r.st=stp hd s.data.toList q.st cm:=⟨⟨sp,sh,so,i,cm⟩,by simp,HST.out.symm⟩
       have sU:i<(L++[(⟨sp,sh,so,i,cm⟩:Rc)]).length:=by simp;omega
       rcases (show way=0\/way=1 by omega) with e|e
       ·subst e
        have hcm:cm=false:=by rw[<-nQ];rfl
        subst hcm
        refine ⟨⟨1,_,_,by omega,by go_num,hm9,sU,fun h=>by omega,fun _=>(hri 0 (HR0.out rfl)).to1 hq2 hsb,fun h=>by omega⟩,by simp[intOf]⟩
       ·subst e
        have hcm:cm=true:=by rw[<-nQ];rfl
        subst hcm
        refine ⟨⟨2,_,_,by omega,by go_num,hm9,sU,fun h=>by omega,fun h=>by omega,fun _=>(hri 1 (HR1.out rfl)).to0 hq2 hsb⟩,by simp[intOf]⟩
      ·rw[hf] at AM
       go_wp2_with (first|(refine wpList_load_row rfl 91 _ rfl _ rfl 91 #[.int .i64 (sp:Int),.bool c0,.bool c1,.bool c2,.bool c3,.bool c4,.bool c5,.bool so] (0,0) _ ?_ Tryz.underlying91 rfl Tryz.iState ?_;(exact HS7.out.raw))|(go_at_call 127;refine (AM.out _ HK7.out).mono ?_;rintro e w8 ⟨rfl,mU,hk8⟩))
       have hm8:SIm w w8 hd s lg gs N (.slice (some ⟨g,0,none⟩) L.length cap) L (fun x=>decide (x=sn sp sh so)||f x):=SIm.mark HC7.out HO7.out HM.out.ne HW7.out HM.out.gt mU hk8
       have hsb:∃r∈L,r.st=stp hd s.data.toList q.st cm:=by rw[HST.out];exact HRK.out.Gh HG.out HSO.out hf
       rcases (show way=0\/way=1 by omega) with e|e
       ·subst e
        have hcm:cm=false:=by rw[<-nQ];rfl
        subst hcm
        refine ⟨⟨1,L,_,by omega,by go_num,hm8,hil,fun h=>by omega,fun _=>((HR0.out rfl).same hf).to1 HQ.out hsb,fun h=>by omega⟩,by simp[intOf]⟩
       ·subst e
        have hcm:cm=true:=by rw[<-nQ];rfl
        subst hcm
        refine ⟨⟨2,L,_,by omega,by go_num,hm8,hil,fun h=>by omega,fun h=>by omega,fun _=>((HR1.out rfl).same hf).to0 HQ.out hsb⟩,by simp[intOf]⟩
    ·have e:way=2:=by omega
     subst e
     obtain ⟨ao,cc,hv⟩:=bq HM.out.own
     subst hv
     have hlen:L.length<=N:=by have:=(HR2.out rfl).len HG.out;rw[hls,HN.out] at this;exact this
     have hNb:N<=100000:=by have:=HN.out;omega
     have hib:(i:Int)<=100000:=by omega
     go_wp2
     refine ⟨⟨i+1,L,f,by go_num,HM.out,HR2.out rfl,by omega⟩,?_⟩
     simp[intOf];omega
  ·go_wp2
   go_ret
   exact ⟨_,L,rfl,HM.out.own,⟨i,f,HR.out,by omega⟩,HM.out.bel⟩
end
end Go.Proofs.YtecmfdkhcffpmaaGreat
