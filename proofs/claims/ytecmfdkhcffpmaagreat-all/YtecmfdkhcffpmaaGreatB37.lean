/- Ix, TbK, StF, StH. -/
import Derived.Test.YtecmfdkhcffpmaaGreatB06
import Derived.Test.YtecmfdkhcffpmaaGreatB25
import Derived.Test.YtecmfdkhcffpmaaGreatB33
import Derived.Deep.MidRow
namespace Go.Proofs.YtecmfdkhcffpmaaGreat
open Go.RowKit
set_option linter.unusedVariables false
set_option linter.unusedSimpArgs false
set_option linter.unusedSectionVars false
set_option maxHeartbeats 8000000
set_option maxRecDepth 100000
theorem iT {P:Program}{ops:Array Oper}{rest:List Oper}{o:Oper}{a:Act}{w:World}{Q:Exit->Act->World->Prop}(hg:o.guard=none)(ty:TypeId)(x i:Operand)(ho:o.op=.index ty x i)
  (v:Value) (hrun:(Instr.index ty (a.eval x) (a.eval i)).run P w=.ok v w) (h:wpList P ops Q rest (a.put o.dst v) w):wpList P ops Q (o::rest) a w:=by
 refine wpList_runTo' hg v w ?_ h
 unfold execOp
 simp only[ho,Sem.run_bind,Sem.run_pure,hrun,Result.andThen_ok]
theorem Tryz.sizeBool:(Tryz.prog.info? 4).map (·.size)=some 1:=by kernel_rfl
theorem ixB (t:TypeId)(len:Nat)(hu:Tryz.prog.underlying t=some (.array len 4))(cs:Array Value)(i:Nat)(hi:i<len)(v:Value)(hv:cs[i]?=some v)(w:World):(Instr.index t (.agg cs) (.int .i64 (i:Int))).run Tryz.prog w=.ok v w:=by
 have hs:=Tryz.sizeBool
 cases hq:Tryz.prog.info? 4 with
 | none=>rw[hq] at hs;cases hs
 | some x =>
  rw[hq] at hs
  have hx:x.size=1:=by simpa using hs
  have hub:Tryz.prog.underlying 4=some .bool:=by kernel_rfl
  unfold Instr.index
  have hp:∀w,(program:Sem Program).run Tryz.prog w=.ok Tryz.prog w:=fun w=>rfl
  simp[Sem.run_bind,Sem.run_pure,Result.andThen_ok,underlying,sizeOf,typeInfo,hp,part,isAgg,asIntOf,hu,hq,hx,hub,hi,hv]
def bsA (n:Nat)(f:Nat->Bool):Array Value:=((List.range n).map (fun i=>Value.bool (f i))).toArray
theorem iX (n:Nat)(f:Nat->Bool):(bsA n f).size=n:=by simp[bsA]
theorem gX (n:Nat)(f:Nat->Bool)(i:Nat)(hi:i<n):(bsA n f)[i]?=some (.bool (f i)):=by simp[bsA,hi]
theorem iI (n:Nat)(f:Nat->Bool):(bsA n f).all (·.oneCell')=true:=by simp[bsA,Value.oneCell']
theorem lG {n:Nat}{f g:Nat->Bool}(h:∀i,i<n->f i=g i):bsA n f=bsA n g:=by
 unfold bsA
 congr 1
 refine List.map_congr_left (fun i hi=>?_)
 rw[h i (List.mem_range.1 hi)]
theorem qA (n:Nat)(f:Nat->Bool)(k:Nat)(v:Bool):(bsA n f).setIfInBounds k (.bool v)=bsA n (fun i=>if i=k then v else f i):=by
 apply Array.ext_getElem?
 intro i
 rw[Array.getElem?_setIfInBounds]
 by_cases hi:i<n
 ·rw[gX n (fun i=>if i=k then v else f i) _ hi]
  by_cases e:k=i
  ·subst e;rw[if_pos rfl,iX,if_pos hi,if_pos rfl]
  ·rw[if_neg e,gX _ _ _ hi,if_neg (fun h=>e h.symm)]
 ·rw[Array.getElem?_eq_none (xs:=bsA n (fun i=>if i=k then v else f i)) (by rw[iX];omega)]
  by_cases e:k=i
  ·subst e;rw[if_pos rfl,iX,if_neg hi]
  ·rw[if_neg e,Array.getElem?_eq_none (by rw[iX];omega)]
theorem R4 (n m:Nat)(f:Nat->Bool)(o:Nat)(h:o+m<=n):(bsA n f).extract o (o+m)=bsA m (fun i=>f (o+i)):=by
 apply Array.ext_getElem?
 intro i
 rw[Array.getElem?_extract]
 by_cases hi:i<m
 ·rw[if_pos (by rw[iX];omega),gX _ _ _ (by omega),gX _ _ _ hi]
 ·rw[if_neg (by rw[iX];omega),Array.getElem?_eq_none (by rw[iX];omega)]
def tbA (T:Tb):Array Value:=bsA 36 (fun i=>T (i / 6) (i%6))
theorem fE (T:Tb):(tbA T).size=36:=iX _ _
theorem kD (T:Tb):(tbA T).all (·.oneCell')=true:=iI _ _
theorem jT (T:Tb)(l m:Nat)(hl:l<6)(hm:m<6):(tbA T)[l*6+m]?=some (.bool (T l m)):=by
 unfold tbA
 rw[gX _ _ _ (by omega),show (l*6+m) / 6=l by omega,show (l*6+m)%6=m by omega]
theorem wm (T:Tb)(l m:Nat)(hl:l<6)(hm:m<6)(v:Bool):(tbA T).setIfInBounds (l*6+m) (.bool v)=tbA (upT T l m v):=by
 unfold tbA
 rw[qA]
 refine lG (fun i hi=>?_)
 unfold upT
 by_cases e:i=l*6+m
 ·rw[if_pos e,if_pos (by omega)]
 ·rw[if_neg e,if_neg (by omega)]
theorem qh {T U:Tb}(h:∀l,l<6->∀m,m<6->T l m=U l m):tbA T=tbA U:=lG (fun i hi=>h _ (by omega) _ (by omega))
theorem R5 (T:Tb)(l:Nat)(hl:l<6):(tbA T).extract (l*6) (l*6+6)=bsA 6 (fun m=>T l m):=by
 unfold tbA
 rw[R4 _ _ _ _ (by omega)]
 refine lG (fun i hi=>?_)
 show T ((l*6+i) / 6) ((l*6+i)%6)=T l i
 rw[show (l*6+i) / 6=l by omega,show (l*6+i)%6=i by omega]
theorem Tryz.iTb (T:Tb):(Tryz.prog.info? 135).map (·.size)=some (tbA T).size:=by rw[fE];kernel_rfl
theorem Tryz.iSix (f:Nat->Bool):(Tryz.prog.info? 70).map (·.size)=some (bsA 6 f).size:=by rw[iX];kernel_rfl
theorem Tryz.iHeldB (f:Nat->Bool):(Tryz.prog.info? 89).map (·.size)=some (bsA 6 f).size:=by rw[iX];kernel_rfl
theorem Gj (T:Tb)(l:Nat)(hl:l<6)(w:World):(Instr.index 135 (.agg (tbA T)) (.int .i64 (l:Int))).run Tryz.prog w=.ok (.agg (bsA 6 (fun m=>T l m))) w:=by
 have hs:(Tryz.prog.info? 70).map (·.size)=some 6:=by kernel_rfl
 cases hq:Tryz.prog.info? 70 with
 | none=>rw[hq] at hs;cases hs
 | some x =>
  rw[hq] at hs
  have hx:x.size=6:=by simpa using hs
  have hu:Tryz.prog.underlying 135=some (.array 6 70):=by kernel_rfl
  have hub:Tryz.prog.underlying 70=some (.array 6 4):=by kernel_rfl
  have hp:∀w,(program:Sem Program).run Tryz.prog w=.ok Tryz.prog w:=fun w=>rfl
  have he:=R5 T l hl
  unfold Instr.index
  simp[Sem.run_bind,Sem.run_pure,Result.andThen_ok,underlying,sizeOf,typeInfo,hp,part,isAgg,asIntOf,hu,hq,hx,hub,hl,he]
  first|done|(have hl':(l:Int)<6:=(by omega);simp[hl',Sem.run_bind,Sem.run_pure,Result.andThen_ok,hq,hx,hub,he,hp])
theorem MK (ρ:Operand->Value)(d:Option Tmp)(ty:TypeId)(ps:String)(af:Array Edge)(g:Option (Nat×Bool))(w:World) :
  (execOp ρ {dst:=d,op:=.alloc 135,type:=ty,pos:=ps,after:=af,guard:=g}).run Tryz.prog w=.ok (.value (.pointer (some ⟨w.heap.size,0,none⟩))) (w.alloc (.cells (tbA (fun _ _=>false)) 135)):=by kernel_rfl
theorem ML (ρ:Operand->Value)(d:Option Tmp)(ty:TypeId)(ps:String)(af:Array Edge)(g:Option (Nat×Bool))(w:World) :
  (execOp ρ {dst:=d,op:=.build 135 #[],type:=ty,pos:=ps,after:=af,guard:=g}).run Tryz.prog w=.ok (.value (.agg (tbA (fun _ _=>false)))) w:=by kernel_rfl
theorem uq {ops:Array Oper}{rest:List Oper}{o:Oper}{a:Act}{w:World}{Q:Exit->Act->World->Prop}(hg:o.guard=none)(ho:o.op=.alloc 135)
  (h:wpList Tryz.prog ops Q rest (a.put o.dst (.pointer (some ⟨w.heap.size,0,none⟩))) (w.alloc (.cells (tbA (fun _ _=>false)) 135))):wpList Tryz.prog ops Q (o::rest) a w:=by
 obtain ⟨d,op,ty,ps,af,g⟩:=o
 simp only at ho hg
 subst ho
 exact wpList_runTo' hg _ _ (MK _ _ _ _ _ _ _) h
theorem I7 {ops:Array Oper}{rest:List Oper}{o:Oper}{a:Act}{w:World}{Q:Exit->Act->World->Prop}(hg:o.guard=none)(ho:o.op=.build 135 #[])
  (h:wpList Tryz.prog ops Q rest (a.put o.dst (.agg (tbA (fun _ _=>false)))) w):wpList Tryz.prog ops Q (o::rest) a w:=by
 obtain ⟨d,op,ty,ps,af,g⟩:=o
 simp only at ho hg
 subst ho
 exact wpList_runTo' hg _ _ (ML _ _ _ _ _ _ _) h
def viA (v:Vi):Array Value:=bsA 128 (fun i=>if i<64 then v.wr i else v.ei (i-64))
theorem gq (v:Vi):(viA v).size=128:=iX _ _
theorem lQ (v:Vi):(viA v).all (·.oneCell')=true:=iI _ _
theorem zL (v:Vi)(x:Nat)(hx:x<64):(viA v)[x]?=some (.bool (v.wr x)):=by
 unfold viA;rw[gX _ _ _ (by omega),if_pos hx]
theorem FY (v:Vi)(x:Nat)(hx:x<64):(viA v)[64+x]?=some (.bool (v.ei x)):=by
 unfold viA;rw[gX _ _ _ (by omega),if_neg (by omega),show 64+x-64=x by omega]
theorem QK (v:Vi)(k:Nat)(hk:k<64)(b:Bool):(viA v).setIfInBounds (64+k) (.bool b)=viA ⟨v.wr,fun x=>if x=k then b else v.ei x⟩:=by
 unfold viA
 rw[qA]
 refine lG (fun i hi=>?_)
 by_cases e:i=64+k
 ·subst e;rw[if_pos rfl,if_neg (by omega)];simp
 ·rw[if_neg e]
  by_cases h:i<64
  ·rw[if_pos h,if_pos h]
  ·rw[if_neg h,if_neg h]
   show _=if i-64=k then b else v.ei (i-64)
   rw[if_neg (by omega)]
theorem QL (v:Vi)(k:Nat)(hk:k<64)(b:Bool):(viA v).setIfInBounds k (.bool b)=viA ⟨fun x=>if x=k then b else v.wr x,v.ei⟩:=by
 unfold viA
 rw[qA]
 refine lG (fun i hi=>?_)
 by_cases e:i=k
 ·subst e;rw[if_pos rfl,if_pos (by omega)];simp
 ·rw[if_neg e]
  by_cases h:i<64
  ·rw[if_pos h,if_pos h]
   show _=if i=k then b else v.wr i
   rw[if_neg e]
  ·rw[if_neg h,if_neg h]
theorem Tryz.iVi (v:Vi):(Tryz.prog.info? 187).map (·.size)=some (viA v).size:=by rw[gq];kernel_rfl
def cu:Vi:=⟨fun _=>false,fun _=>false⟩
theorem MN (ρ:Operand->Value)(d:Option Tmp)(ty:TypeId)(ps:String)(af:Array Edge)(g:Option (Nat×Bool))(w:World) :
  (execOp ρ {dst:=d,op:=.alloc 187,type:=ty,pos:=ps,after:=af,guard:=g}).run Tryz.prog w=.ok (.value (.pointer (some ⟨w.heap.size,0,none⟩))) (w.alloc (.cells (viA cu) 187)):=by kernel_rfl
theorem MO (ρ:Operand->Value)(d:Option Tmp)(ty:TypeId)(ps:String)(af:Array Edge)(g:Option (Nat×Bool))(w:World) :
  (execOp ρ {dst:=d,op:=.build 187 #[],type:=ty,pos:=ps,after:=af,guard:=g}).run Tryz.prog w=.ok (.value (.agg (viA cu))) w:=by kernel_rfl
theorem mY {ops:Array Oper}{rest:List Oper}{o:Oper}{a:Act}{w:World}{Q:Exit->Act->World->Prop}(hg:o.guard=none)(ho:o.op=.alloc 187)
  (h:wpList Tryz.prog ops Q rest (a.put o.dst (.pointer (some ⟨w.heap.size,0,none⟩))) (w.alloc (.cells (viA cu) 187))):wpList Tryz.prog ops Q (o::rest) a w:=by
 obtain ⟨d,op,ty,ps,af,g⟩:=o
 simp only at ho hg
 subst ho
 exact wpList_runTo' hg _ _ (MN _ _ _ _ _ _ _) h
theorem I8 {ops:Array Oper}{rest:List Oper}{o:Oper}{a:Act}{w:World}{Q:Exit->Act->World->Prop}(hg:o.guard=none)(ho:o.op=.build 187 #[])
  (h:wpList Tryz.prog ops Q rest (a.put o.dst (.agg (viA cu))) w):wpList Tryz.prog ops Q (o::rest) a w:=by
 obtain ⟨d,op,ty,ps,af,g⟩:=o
 simp only at ho hg
 subst ho
 exact wpList_runTo' hg _ _ (MO _ _ _ _ _ _ _) h
section
open Mc
theorem Tryz.uHeld:Tryz.prog.underlying 89=some (.array 6 4):=by kernel_rfl
theorem Tryz.uSix:Tryz.prog.underlying 70=some (.array 6 4):=by kernel_rfl
theorem Ai (f:Nat->Bool)(i:Nat)(hi:i<6)(w:World):(Instr.index 89 (.agg (bsA 6 f)) (.int .i64 (i:Int))).run Tryz.prog w=.ok (.bool (f i)) w:=ixB 89 6 Tryz.uHeld _ i hi _ (gX _ _ _ hi) w
theorem UG (f:Nat->Bool)(i:Nat)(hi:i<6)(w:World):(Instr.index 70 (.agg (bsA 6 f)) (.int .i64 (i:Int))).run Tryz.prog w=.ok (.bool (f i)) w:=ixB 70 6 Tryz.uSix _ i hi _ (gX _ _ _ hi) w
theorem Row.four (w:World)(a b c d:Array Value)(s t u v:TypeId):Row ((((w.alloc (.cells a s)).alloc (.cells b t)).alloc (.cells c u)).alloc (.cells d v)) w.heap.size a s/\Row ((((w.alloc (.cells a s)).alloc (.cells b t)).alloc (.cells c u)).alloc (.cells d v)) (w.heap.size+1) b t/\Row ((((w.alloc (.cells a s)).alloc (.cells b t)).alloc (.cells c u)).alloc (.cells d v)) (w.heap.size+2) c u/\Row ((((w.alloc (.cells a s)).alloc (.cells b t)).alloc (.cells c u)).alloc (.cells d v)) (w.heap.size+3) d v:=by
 obtain ⟨h1,h2,h3⟩:=Row.three w a b c s t u
 refine ⟨h1.alloc _,h2.alloc _,h3.alloc _,?_⟩
 have:=Row.new (((w.alloc (.cells a s)).alloc (.cells b t)).alloc (.cells c u)) d v
 simpa using this
theorem uV (w:World)(a b c d:Obj):Below w.heap.size w ((((w.alloc a).alloc b).alloc c).alloc d):=(iR w a b c).alloc (by simp;omega) d
def kT (fa fb:Nat->Bool)(k:Nat):Nat->Bool:=fun i=>fa i||(decide (i<k)&&fb i)
theorem OG (fa fb:Nat->Bool):bsA 6 (kT fa fb 0)=bsA 6 fa:=lG (fun i _=>by simp[kT])
theorem QM (fa fb:Nat->Bool):bsA 6 (kT fa fb 6)=bsA 6 (fun i=>fa i||fb i):=lG (fun i hi=>by simp[kT,hi])
theorem OI (fa fb:Nat->Bool)(k:Nat)(hk:k<6):(bsA 6 (kT fa fb k)).setIfInBounds k (.bool (kT fa fb k k||fb k))=bsA 6 (kT fa fb (k+1)):=by
 rw[qA]
 refine lG (fun i hi=>?_)
 unfold kT
 by_cases e:i=k
 ·subst e;simp
 ·rw[if_neg e]
  have:decide (i<k)=decide (i<k+1):=by simp;omega
  rw[this]
theorem R6 (fa fb:Nat->Bool)(w:World) :
  Calls Tryz.prog 108 #[.agg (bsA 6 fa),.agg (bsA 6 fb)] w fun e w'=>e=.returned (.agg (bsA 6 (fun i=>fa i||fb i)))/\Below w.heap.size w w':=by
 have ZA:=hide (Row.three w (bsA 6 fa) (bsA 6 fb) #[.bool false,.bool false,.bool false,.bool false,.bool false,.bool false] 89 89 89)
 have ZB:=hide (iR w (.cells (bsA 6 fa) 89) (.cells (bsA 6 fb) 89) (.cells #[.bool false,.bool false,.bool false,.bool false,.bool false,.bool false] 89))
 go_enter Tryz.func108,Tryz.ntmps108
 go_wp2_with (first|(refine wpList_load_row rfl 89 _ rfl _ rfl 89 (bsA 6 fb) (0,0) _ ?_ Tryz.underlying89 rfl (Tryz.iHeldB _) ?_;(exact ZA.out.2.1.raw)))
 generalize ((w.alloc (.cells (bsA 6 fa) 89)).alloc (.cells (bsA 6 fb) 89)).alloc (.cells #[.bool false,.bool false,.bool false,.bool false,.bool false,.bool false] 89)=W at *
 go_loopw [8] (fun c wr=>∃k:Nat,k<=6/\c=.int .i64 k/\Row wr w.heap.size (bsA 6 (kT fa fb k)) 89/\Row wr (w.heap.size+2) #[.bool false,.bool false,.bool false,.bool false,.bool false,.bool false] 89/\Below w.heap.size w wr) (fun c _=>6-(intOf c).toNat)
 case atStart=>exact ⟨0,by omega,rfl,by rw[OG];exact ZA.out.1,ZA.out.2.2,ZB.out⟩
 case round =>
  clear ZA ZB
  obtain ⟨k,hk,rfl,h1,h2,h3⟩:=hrel
  have H1:=hide h1
  have H2:=hide h2
  have H3:=hide h3
  clear h1 h2 h3
  by_cases hlt:k<6
  ·have c1:wr.cell? ⟨w.heap.size,k,none⟩=some (.bool (kT fa fb k k)):=H1.out.cell k (gX _ _ _ hlt)
   have f1:=H1.out.frozen k
   have hix:=hide (Ai fb k hlt)
   have hst:=hide (OI fa fb k hlt)
   generalize kT fa fb k k=o1 at *
   generalize fb k=o2 at *
   cases o1<;>(
    go_wp2_with (refine iT rfl _ _ _ rfl _ (hix.out _) ?_)
    go_round
    case measure=>simp[intOf];omega
    case rel =>
     refine ⟨k+1,by omega,by go_num,?_,H2.out.aA (by omega) _ _,H3.out.setCell (Nat.le_refl _) _⟩
     rw[<-hst.out]
     first|exact H1.out.set k _|(simp only[Bool.false_or,Bool.true_or];exact H1.out.set k _))
  ·have e:k=6:=by omega
   subst e
   rw[QM] at H1
   go_wp2_with (first|(refine wpList_load_row rfl 89 _ rfl _ rfl 89 (bsA 6 (fun i=>fa i||fb i)) (0,0) _ ?_ Tryz.underlying89 rfl (Tryz.iHeldB _) ?_;(exact H1.out.raw))|(refine wpList_store_row rfl 89 _ _ rfl (w.heap.size+2) (bsA 6 (fun i=>fa i||fb i)) rfl rfl 89 #[.bool false,.bool false,.bool false,.bool false,.bool false,.bool false] ?_ (Tryz.iHeldB _) rfl (iI _ _) ?_;(exact H2.out.raw)))
   exact bodyPost_ret (v:=.agg (bsA 6 (fun i=>fa i||fb i))) (results_cell_row Tryz.results108 _ _ (w.heap.size+2) 89 _ (0,0) _ rfl (H2.out.setRow _).raw Tryz.underlying89 rfl (Tryz.iHeldB _)) rfl ⟨rfl,below_setRow H3.out (by omega) _⟩
def wt (T:Tb)(fa fb:Nat->Bool)(l m:Nat):Tb:=fun x y=>T x y||((decide (x<l)||(decide (x=l)&&decide (y<m)))&&fa x&&fb y)
theorem R7 (T:Tb)(fa fb:Nat->Bool):tbA (wt T fa fb 0 0)=tbA T:=qh (fun x _ y _=>by simp[wt])
theorem Tz (T:Tb)(fa fb:Nat->Bool)(l:Nat):tbA (wt T fa fb l 6)=tbA (wt T fa fb (l+1) 0):=qh (fun x _ y hy=>by
 unfold wt
 have:(decide (x<l)||(decide (x=l)&&decide (y<6)))=(decide (x<l+1)||(decide (x=l+1)&&decide (y<0))):=by
  simp[hy]
  by_cases h1:x<l<;>by_cases h2:x=l<;>simp[h1,h2]<;>omega
 rw[this])
theorem TA (T:Tb)(fa fb:Nat->Bool):tbA (wt T fa fb 6 0)=tbA (fun x y=>T x y||(fa x&&fb y)):=qh (fun x hx y _=>by simp[wt,hx])
theorem TB (T:Tb)(fa fb:Nat->Bool)(l m:Nat)(h1:fa l=true)(h2:fb m=true):tbA (upT (wt T fa fb l m) l m true)=tbA (wt T fa fb l (m+1)):=qh (fun x _ y _=>by
 unfold upT
 by_cases e:x=l/\y=m
 ·rw[if_pos e,e.1,e.2];simp[wt,h1,h2]
 ·rw[if_neg e]
  unfold wt
  have:(decide (x<l)||(decide (x=l)&&decide (y<m)))=(decide (x<l)||(decide (x=l)&&decide (y<m+1))):=by
   by_cases h3:x=l
   ·have:decide (y<m)=decide (y<m+1):=by simp;omega
    rw[this]
   ·simp[h3]
  rw[this])
theorem TU (T:Tb)(fa fb:Nat->Bool)(l m:Nat)(h:(fa l&&fb m)=false):tbA (wt T fa fb l m)=tbA (wt T fa fb l (m+1)):=qh (fun x _ y _=>by
 unfold wt
 by_cases e:x=l/\y=m
 ·rw[e.1,e.2,Bool.and_assoc,Bool.and_assoc,h];simp
 ·have:(decide (x<l)||(decide (x=l)&&decide (y<m)))=(decide (x<l)||(decide (x=l)&&decide (y<m+1))):=by
   by_cases h3:x=l
   ·have:decide (y<m)=decide (y<m+1):=by simp;omega
    rw[this]
   ·simp[h3]
  rw[this])
theorem TV (T:Tb)(fa fb:Nat->Bool)(w:World) :
  Calls Tryz.prog 107 #[.agg (tbA T),.agg (bsA 6 fa),.agg (bsA 6 fb)] w fun e w'=>e=.returned (.agg (tbA (fun x y=>T x y||(fa x&&fb y))))/\Below w.heap.size w w':=by
 have ZA:=hide (Row.four w (tbA T) (bsA 6 fa) (bsA 6 fb) (tbA (fun _ _=>false)) 135 89 89 135)
 have ZB:=hide (uV w (.cells (tbA T) 135) (.cells (bsA 6 fa) 89) (.cells (bsA 6 fb) 89) (.cells (tbA (fun _ _=>false)) 135))
 go_enter Tryz.func107,Tryz.ntmps107
 go_wp2_with (first|(refine wpList_load_row rfl 89 _ rfl _ rfl 89 (bsA 6 fa) (0,0) _ ?_ Tryz.underlying89 rfl (Tryz.iHeldB _) ?_;(exact ZA.out.2.1.raw))|(refine uq rfl rfl ?_))
 generalize (((w.alloc (.cells (tbA T) 135)).alloc (.cells (bsA 6 fa) 89)).alloc (.cells (bsA 6 fb) 89)).alloc (.cells (tbA (fun _ _=>false)) 135)=W at *
 go_loopw [12] (fun c wr=>∃l:Nat,l<=6/\c=.int .i64 l/\Row wr w.heap.size (tbA (wt T fa fb l 0)) 135/\Row wr (w.heap.size+2) (bsA 6 fb) 89/\Row wr (w.heap.size+3) (tbA (fun _ _=>false)) 135/\Below w.heap.size w wr) (fun c _=>6-(intOf c).toNat)
 case atStart=>exact ⟨0,by omega,rfl,by rw[R7];exact ZA.out.1,ZA.out.2.2.1,ZA.out.2.2.2,ZB.out⟩
 case round =>
  clear ZA ZB
  obtain ⟨l,hl,rfl,h1,h2,h3,h4⟩:=hrel
  have H1:=hide h1
  have H2:=hide h2
  have H3:=hide h3
  have H4:=hide h4
  clear h1 h2 h3 h4
  by_cases hlt:l<6
  ·have hix:=hide (Ai fa l hlt)
   have hl0:(0:Int)<=(l:Int):=by omega
   go_wp2_with (first|(refine wpList_load_row rfl 89 _ rfl _ rfl 89 (bsA 6 fb) (0,0) _ ?_ Tryz.underlying89 rfl (Tryz.iHeldB _) ?_;(exact H2.out.raw))|(refine iT rfl _ _ _ rfl _ (hix.out _) ?_))
   go_loopw [17] (fun c wr=>∃m:Nat,m<=6/\c=.int .i64 m/\Row wr w.heap.size (tbA (wt T fa fb l m)) 135/\Row wr (w.heap.size+2) (bsA 6 fb) 89/\Row wr (w.heap.size+3) (tbA (fun _ _=>false)) 135/\Below w.heap.size w wr) (fun c _=>6-(intOf c).toNat)
   case atStart=>exact ⟨0,by omega,rfl,H1.out,H2.out,H3.out,H4.out⟩
   case round =>
    clear H1 H2 H3 H4 hix
    obtain ⟨m,hm,rfl,h1,h2,h3,h4⟩:=hrel
    have H1:=hide h1
    have H2:=hide h2
    have H3:=hide h3
    have H4:=hide h4
    clear h1 h2 h3 h4
    by_cases hmt:m<6
    ·have hix:=hide (Ai fb m hmt)
     have c1:wr.cell? ⟨w.heap.size,l*6+m,none⟩=some (.bool (wt T fa fb l m l m)):=H1.out.cell _ (jT _ _ _ hlt hmt)
     have f1:=H1.out.frozen (l*6+m)
     have hm0:(0:Int)<=(m:Int):=by omega
     have dH:=hide (TB T fa fb l m)
     have hno:=hide (TU T fa fb l m)
     have hset:=hide (wm (wt T fa fb l m) l m hlt hmt true)
     generalize wt T fa fb l m l m=o0 at *
     generalize fa l=o1 at *
     generalize fb m=o2 at *
     cases o1<;>cases o2<;>(
      go_wp2_with (refine iT rfl _ _ _ rfl _ (hix.out _) ?_)
      go_round
      case measure=>simp[intOf];omega
      case rel =>
       first
       | exact ⟨m+1,by omega,by go_num,by rw[<-hno.out rfl];exact H1.out,H2.out,H3.out,H4.out⟩
       | exact ⟨m+1,by omega,by go_num,by rw[<-dH.out rfl rfl,<-hset.out];exact H1.out.set _ _,H2.out.aA (by omega) _ _,H3.out.aA (by omega) _ _,H4.out.setCell (Nat.le_refl _) _⟩)
    ·have e:m=6:=by omega
     subst e
     rw[Tz] at H1
     go_wp2
     go_round
     case measure=>simp[intOf];omega
     case rel=>exact ⟨l+1,by omega,by go_num,H1.out,H2.out,H3.out,H4.out⟩
  ·have e:l=6:=by omega
   subst e
   rw[TA] at H1
   go_wp2_with (first|(refine wpList_load_row rfl 135 _ rfl _ rfl 135 (tbA (fun x y=>T x y||(fa x&&fb y))) (0,0) _ ?_ Tryz.underlying135 rfl (Tryz.iTb _) ?_;(exact H1.out.raw))|(refine wpList_store_row rfl 135 _ _ rfl (w.heap.size+3) (tbA (fun x y=>T x y||(fa x&&fb y))) rfl rfl 135 (tbA (fun _ _=>false)) ?_ (Tryz.iTb _) (by rw[fE,fE]) (kD _) ?_;(exact H3.out.raw)))
   exact bodyPost_ret (v:=.agg (tbA (fun x y=>T x y||(fa x&&fb y)))) (results_cell_row Tryz.results107 _ _ (w.heap.size+3) 135 _ (0,0) _ rfl (H3.out.setRow _).raw Tryz.underlying135 rfl (Tryz.iTb _)) rfl ⟨rfl,below_setRow H4.out (by omega) _⟩
end
section
open Mc
theorem Tryz.uS64:Tryz.prog.underlying 185=some (.array 64 4):=by kernel_rfl
theorem Tryz.i64:(Tryz.prog.info? 185).map (·.size)=some 64:=by kernel_rfl
theorem GY (f:Nat->Bool)(i:Nat)(hi:i<64)(w:World):(Instr.index 185 (.agg (bsA 64 f)) (.int .i64 (i:Int))).run Tryz.prog w=.ok (.bool (f i)) w:=ixB 185 64 Tryz.uS64 _ i hi _ (gX _ _ _ hi) w
theorem lm {ops:Array Oper}{rest:List Oper}{op:Oper}{a:Act}{w:World}{Q:Exit->Act->World->Prop}(hgd:op.guard=none)(ty:TypeId)(x:Operand)(ho:op.op=.load ty x)
  (b o:Nat) (hx:a.eval x=.pointer (some ⟨b,o,none⟩)) (n:Nat) (f:Nat->Bool) (d:TypeDesc) (hc:∀i,i<n->w.cell? ⟨b,o+i,none⟩=some (.bool (f i)))
  (hu:Tryz.prog.underlying ty=some d) (hd:d.isRow=true) (hi:(Tryz.prog.info? ty).map (·.size)=some n)
  (h:wpList Tryz.prog ops Q rest (a.put op.dst (.agg (bsA n f))) w):wpList Tryz.prog ops Q (op::rest) a w:=by
 refine wpList_load_mid hgd ty x ho b o hx ((List.range n).map (fun i=>Value.bool (f i))) d ?_ hu hd (by simpa using hi) h
 intro j v hj
 rw[List.getElem?_map] at hj
 by_cases hjn:j<n
 ·rw[List.getElem?_range hjn] at hj
  cases hj
  exact hc j hjn
 ·rw[List.getElem?_eq_none (by simp;omega)] at hj
  cases hj
theorem Row.ei {w:World}{g:Nat}{v:Vi}(h:Row w g (viA v) 187):∀i,i<64->w.cell? ⟨g,64+i,none⟩=some (.bool (v.ei i)):=fun i hi=>h.cell _ (FY v i hi)
theorem OJ (x y:Nat)(hx:x<64)(hy:y<64):((bits BinOp.and IntKind.i64 (x:Int) (y:Int)=0)↔(x &&& y=0)):=by
 have h:∀x:Fin 64,∀y:Fin 64,((bits BinOp.and IntKind.i64 ((x.val:Nat):Int) ((y.val:Nat):Int)=0)↔(x.val &&& y.val=0)):=by decide
 exact h ⟨x,hx⟩ ⟨y,hy⟩
theorem MP (v o:Vi)(w:World) :
  Calls Tryz.prog 126 #[.agg (viA v),.agg (viA o)] w fun e w'=>e=.returned (.bool (jH v o))/\Below w.heap.size w w':=by
 have ZA:=hide (Row.two w (viA v) (viA o) 187 187)
 have ZB:=hide (og w (.cells (viA v) 187) (.cells (viA o) 187))
 go_enter Tryz.func126,Tryz.ntmps126
 go_wp2_with (first|(refine lm rfl 185 _ rfl _ _ rfl 64 v.ei _ ?_ Tryz.uS64 rfl Tryz.i64 ?_;(exact ZA.out.1.ei)))
 generalize (w.alloc (.cells (viA v) 187)).alloc (.cells (viA o) 187)=W at *
 go_loop [11] (fun c=>∃x:Nat,x<=64/\c=.int .i64 x/\oq v o x=false) (fun c=>64-(intOf c).toNat)
 case atStart=>exact ⟨0,by omega,rfl,rfl⟩
 case round =>
  obtain ⟨x,hx,rfl,h1⟩:=hrel
  have H1:=hide h1
  clear h1
  by_cases hxt:x<64
  ·have hx0:(0:Int)<=(x:Int):=by omega
   have hix:=hide (GY v.ei x hxt)
   go_wp2_with (first|(refine lm rfl 185 _ rfl _ _ rfl 64 o.ei _ ?_ Tryz.uS64 rfl Tryz.i64 ?_;(exact ZA.out.2.ei))|(refine iT rfl _ _ _ rfl _ (hix.out _) ?_))
   go_loop [17] (fun c=>∃y:Nat,y<=64/\c=.int .i64 y/\mH v o x y=false) (fun c=>64-(intOf c).toNat)
   case atStart=>exact ⟨0,by omega,rfl,rfl⟩
   case round =>
    clear hix
    obtain ⟨y,hy,rfl,h2⟩:=hrel
    have H2:=hide h2
    clear h2
    by_cases hyt:y<64
    ·have hy0:(0:Int)<=(y:Int):=by omega
     have hix:=hide (GY o.ei y hyt)
     have c1:W.cell? ⟨w.heap.size,x,none⟩=some (.bool (v.wr x)):=ZA.out.1.cell _ (zL v x hxt)
     have c2:W.cell? ⟨w.heap.size+1,y,none⟩=some (.bool (o.wr y)):=ZA.out.2.cell _ (zL o y hyt)
     have hs:=hide (I5 v o x y)
     have dH:=hide (fun h=>MG (n:=64) hxt (KO (v:=v) (o:=o) (x:=x) (n:=64) hyt h))
     have hbz:(bits BinOp.and IntKind.i64 (x:Int) (y:Int)=0)↔(x &&& y=0):=OJ x y hxt hyt
     generalize v.ei x=o1 at *
     generalize o.ei y=o2 at *
     generalize v.wr x=o3 at *
     generalize o.wr y=o4 at *
     cases o1
     ·clear hbz
      go_wp2_with (refine iT rfl _ _ _ rfl _ (hix.out _) ?_)
      go_round
      case measure=>simp[intOf];omega
      case rel=>exact ⟨y+1,by omega,by go_num,by rw[hs.out,H2.out];rfl⟩
     cases o2
     ·clear hbz
      go_wp2_with (refine iT rfl _ _ _ rfl _ (hix.out _) ?_)
      go_round
      case measure=>simp[intOf];omega
      case rel=>exact ⟨y+1,by omega,by go_num,by rw[hs.out,H2.out];rfl⟩
     by_cases hz:x &&& y=0
     ·have hz1:=hbz.2 hz
      have HZ:=hide hz
      clear hbz hz
      cases o3
      ·cases o4
       ·go_wp2_with (refine iT rfl _ _ _ rfl _ (hix.out _) ?_)
        go_round
        case measure=>simp[intOf];omega
        case rel=>exact ⟨y+1,by omega,by go_num,by rw[hs.out,H2.out];simp⟩
       ·go_wp2_with (refine iT rfl _ _ _ rfl _ (hix.out _) ?_)
        go_ret
        exact ⟨bW (by rw[<-xL,dH.out (by simp[HZ.out])]),ZB.out⟩
      ·go_wp2_with (refine iT rfl _ _ _ rfl _ (hix.out _) ?_)
       go_ret
       exact ⟨bW (by rw[<-xL,dH.out (by simp[HZ.out])]),ZB.out⟩
     ·have hz1:¬(bits BinOp.and IntKind.i64 (x:Int) (y:Int)=0):=fun e=>hz (hbz.1 e)
      have HZ:=hide hz
      clear hbz hz
      go_wp2_with (refine iT rfl _ _ _ rfl _ (hix.out _) ?_)
      go_round
      case measure=>simp[intOf];omega
      case rel=>exact ⟨y+1,by omega,by go_num,by rw[hs.out,H2.out];simp[HZ.out]⟩
    ·have e:y=64:=by omega
     subst e
     go_wp2
     go_round
     case measure=>simp[intOf];omega
     case rel=>exact ⟨x+1,by omega,by go_num,by rw[JC,H1.out,H2.out];rfl⟩
  ·have e:x=64:=by omega
   subst e
   go_wp2
   go_ret
   exact ⟨bW (by rw[<-xL];exact H1.out.symm),ZB.out⟩
end
end Go.Proofs.YtecmfdkhcffpmaaGreat
