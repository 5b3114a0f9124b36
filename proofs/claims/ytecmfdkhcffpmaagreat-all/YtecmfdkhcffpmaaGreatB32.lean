/- ProgS, ProgT. -/
import Derived.Test.YtecmfdkhcffpmaaGreatB16
import Derived.Test.YtecmfdkhcffpmaaGreatB14
import Derived.Test.YtecmfdkhcffpmaaGreatB31
import Derived.Maps.AppendAt
import Derived.Test.YtecmfdkhcffpmaaGreatB11
namespace Go.Proofs.YtecmfdkhcffpmaaGreat
open Go.RowKit
set_option linter.unusedVariables false
set_option linter.unusedSimpArgs false
set_option linter.unusedSectionVars false
set_option maxHeartbeats 8000000
set_option maxRecDepth 100000
section
open Mc
def mA (v:Value):Array Value:=#[v,.bool false,.int .i64 0,.bool false,.string ⟨#[]⟩,.slice none 0 0,.int .i64 0,.bool false,.bool false,.bool false,.bool false,.bool false,.bool false,.bool false,.bool false,.int .i64 0,.bool false,.string ⟨#[]⟩,.slice none 0 0,.int .i64 0,.bool false,.bool false,.bool false,.bool false,.bool false,.bool false,.bool false,.bool false,.int .i64 0,.bool false,.string ⟨#[]⟩,.slice none 0 0,.int .i64 0,.bool false,.bool false,.bool false,.bool false,.bool false,.bool false,.bool false,.bool false,.int .i64 0,.bool false,.string ⟨#[]⟩,.slice none 0 0,.int .i64 0,.bool false,.bool false,.bool false,.bool false,.bool false,.bool false,.bool false,.bool false,.int .i64 0,.bool false,.string ⟨#[]⟩,.slice none 0 0,.int .i64 0,.bool false,.bool false,.bool false,.bool false,.bool false,.bool false,.bool false,.bool false,.int .i64 0,.bool false,.string ⟨#[]⟩,.slice none 0 0,.int .i64 0,.bool false,.bool false,.bool false,.bool false,.bool false,.bool false,.bool false]
theorem zJ (ao:Option Addr)(n c:Nat):(mA (.slice ao n c)).all (·.oneCell')=true:=by simp[mA,Value.oneCell']
theorem Tryz.iMach:(Tryz.prog.info? 98).map (·.size)=some 79:=by kernel_rfl
theorem zw (v:Value):(mA v).size=79:=rfl
theorem Tryz.iMachA (v:Value):(Tryz.prog.info? 98).map (·.size)=some (mA v).size:=by rw[zw];exact Tryz.iMach
theorem ME (ρ:Operand->Value)(d:Option Tmp)(ty:TypeId)(ps:String)(af:Array Edge)(g:Option (Nat×Bool))(w:World) :
  (execOp ρ {dst:=d,op:=.alloc 98,type:=ty,pos:=ps,after:=af,guard:=g}).run Tryz.prog w=.ok (.value (.pointer (some ⟨w.heap.size,0,none⟩))) (w.alloc (.cells (mA (.slice none 0 0)) 98)):=by kernel_rfl
theorem MF (ρ:Operand->Value)(d:Option Tmp)(ty:TypeId)(ps:String)(af:Array Edge)(g:Option (Nat×Bool))(w:World) :
  (execOp ρ {dst:=d,op:=.build 98 #[],type:=ty,pos:=ps,after:=af,guard:=g}).run Tryz.prog w=.ok (.value (.agg (mA (.slice none 0 0)))) w:=by kernel_rfl
theorem BI {ops:Array Oper}{rest:List Oper}{o:Oper}{a:Act}{w:World}{Q:Exit->Act->World->Prop}(hg:o.guard=none)(ho:o.op=.alloc 98)
  (h:wpList Tryz.prog ops Q rest (a.put o.dst (.pointer (some ⟨w.heap.size,0,none⟩))) (w.alloc (.cells (mA (.slice none 0 0)) 98))):wpList Tryz.prog ops Q (o::rest) a w:=by
 obtain ⟨d,op,ty,ps,af,g⟩:=o
 simp only at ho hg
 subst ho
 exact wpList_runTo' hg _ _ (ME _ _ _ _ _ _ _) h
theorem I4 {ops:Array Oper}{rest:List Oper}{o:Oper}{a:Act}{w:World}{Q:Exit->Act->World->Prop}(hg:o.guard=none)(ho:o.op=.build 98 #[])
  (h:wpList Tryz.prog ops Q rest (a.put o.dst (.agg (mA (.slice none 0 0)))) w):wpList Tryz.prog ops Q (o::rest) a w:=by
 obtain ⟨d,op,ty,ps,af,g⟩:=o
 simp only at ho hg
 subst ho
 exact wpList_runTo' hg _ _ (MF _ _ _ _ _ _ _) h
def itV (its:List Wd.It)(lg:Nat->Nat)(k:Nat):List Value:=(List.range (k*6)).map (piF its lg (aM its))
theorem vY (its:List Wd.It)(lg:Nat->Nat)(k:Nat):(itV its lg k).length=k*6:=by simp[itV]
theorem wE (its:List Wd.It)(lg:Nat->Nat)(k i:Nat)(h:i<k*6):(itV its lg k)[i]?=some (piF its lg (aM its) i):=by simp[itV,h]
theorem Qv (its:List Wd.It)(lg:Nat->Nat)(k g:Nat):itV its lg k++[.bool (isH its k),.bool (isH its k),.string (Wd.mkS (ah its k)),.slice (some ⟨g,0,none⟩) (ah its k).length (ah its k).length,.bool (!isH its k),.int .i64 0]=itV its (fun i=>if i=k then g else lg i) (k+1):=by
 refine List.ext_getElem? fun i=>?_
 by_cases h:i<k*6
 ·rw[List.getElem?_append_left (by rw[vY];exact h),wE _ _ _ _ h,wE _ _ _ _ (by omega)]
  unfold piF
  have:i / 6≠k:=by omega
  simp only[this,if_false]
 ·rw[List.getElem?_append_right (by rw[vY];omega),vY]
  obtain ⟨j,hj⟩:∃j,i=k*6+j:=⟨i-k*6,by omega⟩
  subst hj
  rw[Nat.add_sub_cancel_left]
  by_cases h6:j<6
  ·rw[wE _ _ _ _ (by omega)]
   have hp:=nH its (fun i=>if i=k then g else lg i) (aM its) k
   rcases j with _|_|_|_|_|_|j
   ·rw[Nat.add_zero,hp.1];rfl
   ·rw[hp.2.1];rfl
   ·rw[hp.2.2.1];rfl
   ·rw[hp.2.2.2.1];simp
   ·rw[hp.2.2.2.2.1];rfl
   ·rw[hp.2.2.2.2.2];rfl
   ·omega
  ·rw[List.getElem?_eq_none (by simp;omega),List.getElem?_eq_none (by rw[vY];omega)]
structure BM (w:World)(N:Nat)(its:List Wd.It)(k:Nat)(v:Value)(lg:Nat->Nat):Prop where
 own:w.ownsRow N 150 6 v k (itV its lg k)
 lead:∀i,i<k->Blk w (lg i) (ah its i).length (ldF its i)/\N<=lg i/\v.ownBlock≠some (lg i)
theorem Tryz.infoItem:(Tryz.prog.info? 150).map (fun i=>(i.zero,i.size,i.bytes))=some (some (.agg #[.bool false,.bool false,.string ByteArray.empty,.slice none 0 0,.bool false,.int .i64 0]),6,72):=by kernel_rfl
theorem Oy (w:World)(its:List Wd.It)(a0:Option Addr)(c0:Nat)(hl:its.length<=8)(ho:bf its)(hb3:∀i,i<its.length->(ah its i).length<=1000)(hc:its.length<=c0/\c0<=maxLen)(hit:0<its.length->∃g,a0=some ⟨g,0,none⟩/\Blk w g (its.length*2) (itF its)) :
  Calls Tryz.prog 60 #[.slice a0 its.length c0] w fun e w'=>∃v lg,e=.returned (.agg (mA v))/\BM w' (w.heap.size+2) its its.length v lg/\Below w.heap.size w w':=by
 have HIT:=hide hit
 have HB3:=hide hb3
 unfold maxLen at hc
 clear hit hb3 ho
 obtain ⟨i0,hi0,hz0,hz1,hz2⟩:=info_parts Tryz.infoItem
 go_enter Tryz.func60,Tryz.ntmps60
 go_wp2_with (first|(refine BI rfl rfl ?_)|(refine I4 rfl rfl ?_)|(refine wpList_store_row rfl 98 _ _ rfl _ (mA (.slice none 0 0)) rfl rfl 98 (mA (.slice none 0 0)) ?_ (Tryz.iMachA _) rfl (zJ _ _ _) ?_;(exact heap_alloc_last _ _)))
 have s0:=hide ((Row.two w (mA (.slice none 0 0)) (mA (.slice none 0 0)) 98 98).1.same (setRow_other _ (w.heap.size+1) w.heap.size (mA (.slice none 0 0)) (by omega)))
 have s1:=hide ((Row.two w (mA (.slice none 0 0)) (mA (.slice none 0 0)) 98 98).2.setRow (mA (.slice none 0 0)))
 have s2:=hide (below_setRow (og w (.cells (mA (.slice none 0 0)) 98) (.cells (mA (.slice none 0 0)) 98)) (show w.heap.size<=w.heap.size+1 by omega) (mA (.slice none 0 0)))
 generalize ((w.alloc (.cells (mA (.slice none 0 0)) 98)).alloc (.cells (mA (.slice none 0 0)) 98)).setRow (w.heap.size+1) (mA (.slice none 0 0))=W at *
 go_loopw [10] (fun a wr=>∃(k:Nat) (v:Value) (lg:Nat->Nat),k<=its.length/\a=.int .i64 k/\Row wr w.heap.size (mA (.slice none 0 0)) 98/\Row wr (w.heap.size+1) (mA v) 98/\BM wr (w.heap.size+2) its k v lg/\Below w.heap.size w wr/\w.heap.size+2<=wr.heap.size) (fun a _=>its.length-(intOf a).toNat)
 case atStart=>exact ⟨0,.slice none 0 0,fun _=>0,by omega,rfl,s0.out,s1.out,⟨World.ownsRow_nil _ _ _ _,fun i hi=>by omega⟩,s2.out,by have:=s1.out.lt;omega⟩
 case round =>
  clear s0 s1 s2
  obtain ⟨k,v,lg,hk,rfl,h0,h1,hbm,hbe,hsz⟩:=hrel
  have HR0:=hide h0
  have HR1:=hide h1
  have HBM:=hide hbm
  have HBE:=hide hbe
  clear h0 h1 hbm hbe
  by_cases hlt:k<its.length
  ·obtain ⟨g0,hg0,hbk⟩:=HIT.out (by omega)
   subst hg0
   have hgl:=hbk.lt
   have hbk':=hbk.same (HBE.out.block g0 hgl)
   have c0:wr.cell? ⟨g0,k*2,none⟩=some (.bool (isH its k)):=by rw[hbk'.cell _ (by omega)];unfold itF;rw[if_pos (by omega),show k*2 / 2=k by omega]
   have c1:wr.cell? ⟨g0,k*2+1,none⟩=some (.string (Wd.mkS (ah its k))):=by rw[hbk'.cell _ (by omega)];unfold itF;rw[if_neg (by omega),show (k*2+1) / 2=k by omega]
   have hbl:=HB3.out k hlt
   have AO:=hide (fun W=>FT (isH its k) (Wd.mkS (ah its k)) W (by rw[Wd.bN];exact hbl))
   simp only[Wd.bN,Wd.fM] at AO
   clear hbk hbk'
   have hk0:(0:Int)<=(k:Int):=by omega
   go_wp2_with fail
   have HI1:=hide (Row.new wr #[.bool (isH its k),.string (Wd.mkS (ah its k))] 37)
   have HB1:=hide (aD wr (.cells #[.bool (isH its k),.string (Wd.mkS (ah its k))] 37))
   generalize wr.alloc (.cells #[.bool (isH its k),.string (Wd.mkS (ah its k))] 37)=w1 at *
   go_at_call 89
   refine (AO.out _).mono ?_
   rintro e w2 ⟨g,rfl,hg,hblk,hb2⟩
   have HI2:=hide (HI1.out.below hb2)
   have HB2:=hide (ak HB1.out hb2)
   have HLD:=hide hblk
   have hgw:wr.heap.size<g:=Nat.lt_of_lt_of_le HI1.out.lt hg
   have x0:=HI2.out.cell 0 (v:=.bool (isH its k)) rfl
   have GQ:=hide (HR1.out.below HB2.out)
   have Us:=hide (HR0.out.below HB2.out)
   obtain ⟨ao,cc,hv⟩:=bq HBM.out.own
   have y0:=GQ.out.cell 0 (v:=v) rfl
   have HOW:=hide (fO HBM.out.own (fun j hj hl=>HB2.out.block j hl))
   have HLT:=hide HBM.out.own.lt
   have Ut:g<w2.heap.size:=hblk.lt
   clear hblk hb2 c0 c1
   have HLT:=hide HBM.out.own.lt
   subst hv
   go_wp2_with (first|(refine wpList_store_row rfl 88 _ _ rfl w2.heap.size #[.bool (isH its k),.string (Wd.mkS (ah its k)),.slice (some ⟨g,0,none⟩) (ah its k).length (ah its k).length] rfl rfl 88 #[.bool false,.string ⟨#[]⟩,.slice none 0 0] ?_ Tryz.iCode rfl (by simp[Value.oneCell']) ?_;(exact (Row.new w2 #[.bool false,.string ⟨#[]⟩,.slice none 0 0] 88).raw);rw[World.setRow_alloc_new];have HC3:=hide (Row.new w2 #[.bool (isH its k),.string (Wd.mkS (ah its k)),.slice (some ⟨g,0,none⟩) (ah its k).length (ah its k).length] 88);have HB3:=hide (aD w2 (.cells #[.bool (isH its k),.string (Wd.mkS (ah its k)),.slice (some ⟨g,0,none⟩) (ah its k).length (ah its k).length] 88));have GR:=hide (GQ.out.alloc (.cells #[.bool (isH its k),.string (Wd.mkS (ah its k)),.slice (some ⟨g,0,none⟩) (ah its k).length (ah its k).length] 88));have Uu:=hide (Us.out.alloc (.cells #[.bool (isH its k),.string (Wd.mkS (ah its k)),.slice (some ⟨g,0,none⟩) (ah its k).length (ah its k).length] 88));have HI3:=hide (HI2.out.alloc (.cells #[.bool (isH its k),.string (Wd.mkS (ah its k)),.slice (some ⟨g,0,none⟩) (ah its k).length (ah its k).length] 88));have Af:=hide (HOW.out.alloc (.cells #[.bool (isH its k),.string (Wd.mkS (ah its k)),.slice (some ⟨g,0,none⟩) (ah its k).length (ah its k).length] 88));generalize w2.alloc (.cells #[.bool (isH its k),.string (Wd.mkS (ah its k)),.slice (some ⟨g,0,none⟩) (ah its k).length (ah its k).length] 88)=w3 at *;have y3:=GR.out.cell 0 (v:=.slice ao k cc) rfl;have x3:=HI3.out.cell 0 (v:=.bool (isH its k)) rfl)|(refine wpList_load_row rfl 88 _ rfl _ rfl 88 #[.bool (isH its k),.string (Wd.mkS (ah its k)),.slice (some ⟨g,0,none⟩) (ah its k).length (ah its k).length] (0,0) _ ?_ Tryz.underlying88 rfl Tryz.iCode ?_;(exact HC3.out.raw))|(at_builtin;refine wpList_append_own_at _ rfl _ _ 86 rfl (w.heap.size+2) 150 i0 _ 6 72 Tryz.underlying86 hi0 hz0 hz1 hz2 rfl (by decide) _ k (itV its lg k) rfl ?_ ⟨_,0,none⟩ 1 1 [.bool (isH its k),.bool (isH its k),.string (Wd.mkS (ah its k)),.slice (some ⟨g,0,none⟩) (ah its k).length (ah its k).length,.bool (!isH its k),.int .i64 0] rfl rfl ?_ ?_ ?_ ?_ ?_ ?_;(exact Af.out.alloc _);(exact eZ _ _ _);(intro x hx;simp at hx;rcases hx with rfl|rfl|rfl|rfl|rfl|rfl<;>rfl);(unfold maxLen;omega);(omega);(have:=HC3.out.lt;simp;omega);intro v' w5 hown' dI fU GU;obtain ⟨ao',cc',hv'⟩:=bq hown';subst hv';have HG5:=hide dI;have HO5:=hide hown';have HA5:=hide GU;have hs3:w2.heap.size<w3.heap.size:=HC3.out.lt;have hs2:wr.heap.size<w2.heap.size:=HI2.out.lt;have HW5:=hide (yD dI);have Ag:=hide (GR.out.same (HW5.out _ (by omega) (fun e=>by have:=HLT.out _ e;omega)));have Uv:=hide (Uu.out.same (HW5.out _ (by omega) (fun e=>by have:=HLT.out _ e;omega)));have y5:=Ag.out.cell 0 (v:=.slice ao k cc) rfl;have f5:=Ag.out.frozen 0;clear dI hown' GU fU))
   go_round
   case measure=>simp[intOf];omega
   case rel =>
    refine ⟨k+1,.slice ao' (k+1) cc',fun i=>if i=k then g else lg i,by omega,by go_num,Uv.out.aA (by omega) 0 _,?_,⟨?_,fun i hi=>?_⟩,?_,?_⟩
    ·have:=Ag.out.set 0 (.slice ao' (k+1) cc')
     simpa [mA] using this
    ·have:=oo HO5.out ⟨w.heap.size+1,0,none⟩ (by show w.heap.size+1<w.heap.size+2;omega) (.slice ao' (k+1) cc')
     rwa [Qv] at this
    ·have hnew:∀j,j<w2.heap.size->(Value.slice ao k cc).ownBlock≠some j->(Value.slice ao' (k+1) cc').ownBlock≠some j:=fun j hj hne e=>by
      rcases HA5.out with e1|e1
      ·exact hne (e1 ▸ e)
      ·rw[e1] at e;simp at e;omega
     by_cases e:i=k
     ·subst e
      simp only[if_true]
      have hne:(Value.slice ao i cc).ownBlock≠some g:=fun e=>by have:=HLT.out _ e;omega
      refine ⟨?_,by omega,hnew g Ut hne⟩
      exact ((HLD.out.FN HB3.out).same (HW5.out g (by omega) hne)).aA (by omega) 0 _
     ·simp only[e,if_false]
      obtain ⟨b1,b2,b3⟩:=HBM.out.lead i (by omega)
      have hb1:=b1.lt
      refine ⟨?_,b2,hnew _ (by omega) b3⟩
      exact (((b1.below HB2.out).FN HB3.out).same (HW5.out _ (by omega) b3)).aA (by omega) 0 _
    ·refine (((HBE.out.trans (HB2.out.mono (by omega))).trans (HB3.out.mono (by omega))).trans ?_).setCell (p:=⟨w.heap.size+1,0,none⟩) (show w.heap.size<=w.heap.size+1 by omega) _
     exact ((Below.refl _ _).alloc (by omega) _).grown HG5.out (by simp;omega) (fun q hq=>by have:=HLT.out q hq;omega)
    ·have:=HG5.out.size
     simp at this ⊢
     omega
  ·have e:k=its.length:=by omega
   subst e
   obtain ⟨ao,cc,hv⟩:=bq HBM.out.own
   subst hv
   go_wp2_with (first|(refine wpList_load_row rfl 98 _ rfl _ rfl 98 (mA (.slice ao its.length cc)) (0,0) _ ?_ Tryz.underlying98 rfl (Tryz.iMachA _) ?_;(exact HR1.out.raw))|(refine wpList_store_row rfl 98 _ _ rfl (w.heap.size) (mA (.slice ao its.length cc)) rfl rfl 98 (mA (.slice none 0 0)) ?_ (Tryz.iMachA _) rfl (zJ _ _ _) ?_;(exact HR0.out.raw)))
   refine bodyPost_ret (v:=.agg (mA (.slice ao its.length cc))) (results_cell_row Tryz.results60 _ _ w.heap.size 98 _ (0,0) _ rfl (HR0.out.setRow _).raw Tryz.underlying98 rfl (Tryz.iMachA _)) rfl ⟨_,lg,rfl,⟨?_,fun i hi=>?_⟩,below_setRow HBE.out (Nat.le_refl _) _⟩
   ·exact fO HBM.out.own (fun j hj hl=>setRow_other _ _ _ _ (by omega))
   ·obtain ⟨b1,b2,b3⟩:=HBM.out.lead i hi
    exact ⟨b1.same (setRow_other _ _ _ _ (by omega)),b2,b3⟩
end
section
open Mc
theorem CP (n:Int):∀l:List UInt8,l.length%2=1->aX n l=false
 | [],h=>by simp at h
 | [_],_=>rfl
 | a::o::r,h=>by rw[aX,CP n r (by simp at h;omega)];simp
theorem Ca (t:ByteArray)(n:Int)(w:World)(ht:t.size<=200000)(hn0:0<=n)(hn:n<=3) :
  Calls Tryz.prog 59 #[.string t,.int .i64 n] w fun e w'=>e=.returned (.bool (aX n t.data.toList))/\w'=w:=by
 by_cases hodd:t.size%2=1
 ·have e:aX n t.data.toList=false:=CP n _ (by rw[Wd.aI];exact hodd)
  rw[e]
  have h2:((t.size:Int)%2 != 0)=true:=by simp;omega
  clear e
  go_enter Tryz.func59,Tryz.ntmps59
  go_wp2
  go_ret
  exact ⟨rfl,rfl⟩
 ·have h2:((t.size:Int)%2 != 0)=false:=by simp;omega
  go_enter Tryz.func59,Tryz.ntmps59
  go_wp2
  go_loop [5] (fun a=>∃k:Nat,k<=t.size/\k%2=0/\a=.int .i64 k/\aX n t.data.toList=aX n (t.data.toList.drop k)) (fun a=>t.size-(intOf a).toNat)
  case atStart=>exact ⟨0,by omega,by omega,rfl,rfl⟩
  case round =>
   obtain ⟨k,hk,hev,rfl,hp⟩:=hrel
   have HP:=hide hp
   clear hp
   by_cases hlt:k+1<t.size
   ·have hb0:((t[k].toNat:Nat):Int)<=255:=by have:=t[k].toNat_lt;omega
    have hb1:((t[k+1].toNat:Nat):Int)<=255:=by have:=t[k+1].toNat_lt;omega
    have AI:=hide (fun W=>KM ((t[k+1].toNat:Nat):Int) W (by omega) hb1)
    have HS:=hide (xE n t k hlt)
    have hw0:IntKind.i64.wrap ((t[k].toNat:Nat):Int)=((t[k].toNat:Nat):Int):=by rw[IntKind.wrap_i64];omega
    have hw64:IntKind.i64.wrap (((t[k].toNat:Nat):Int)-48)=((t[k].toNat:Nat):Int)-48:=by rw[IntKind.wrap_i64];omega
    have hwk:IntKind.i64.wrap ((k:Int)+1)=(k:Int)+1:=by rw[IntKind.wrap_i64];omega
    generalize gJ ((t[k+1].toNat:Nat):Int)=io at *
    have hk1:(0:Int)<=(k:Int)+1:=by omega
    have hk2:(k:Int)+1<(t.size:Int):=by omega
    have hk3:(k:Int)<(t.size:Int):=by omega
    by_cases g1:((t[k].toNat:Nat):Int)-48<0
    ·have HE:Hid (aX n (t.data.toList.drop k)=false):=by apply hide;rw[HS.out];simp;omega
     go_wp2
     all_goals first|(exfalso;omega)|(go_ret;exact ⟨bW (by rw[HP.out,HE.out]),rfl⟩)
    by_cases g2:n<=((t[k].toNat:Nat):Int)-48
    ·have HE:Hid (aX n (t.data.toList.drop k)=false):=by apply hide;rw[HS.out];simp;omega
     go_wp2
     all_goals first|(exfalso;omega)|(go_ret;exact ⟨bW (by rw[HP.out,HE.out]),rfl⟩)
    cases io
    ·have HE:Hid (aX n (t.data.toList.drop k)=false):=by apply hide;rw[HS.out];simp
     go_wp2_with (first|(go_at_call 88;refine (AI.out _).mono ?_;rintro e w' ⟨rfl,rfl⟩))
     all_goals first|(exfalso;omega)|(go_ret;exact ⟨bW (by rw[HP.out,HE.out]),rfl⟩)
    ·have HE:Hid (aX n (t.data.toList.drop k)=aX n (t.data.toList.drop (k+2))):=by apply hide;rw[HS.out];simp;intro;omega
     go_wp2_with (first|(go_at_call 88;refine (AI.out _).mono ?_;rintro e w' ⟨rfl,rfl⟩))
     all_goals first
      | (exfalso;omega)
      | (refine ⟨⟨k+2,by omega,by omega,by go_num,by rw[HP.out,HE.out]⟩,by simp[intOf];omega⟩)
   ·have HE:Hid (aX n (t.data.toList.drop k)=true):=hide (Cu n t k (by omega))
    go_wp2
    all_goals first|(exfalso;omega)|(go_ret;exact ⟨bW (by rw[HP.out,HE.out]),rfl⟩)
theorem Cb {its:List Wd.It}{n:Nat}(hn:n<=3):∀(l:List UInt8) (S:Ma),Mc.Rest n S->aX n l=true->cB its n S l=cB its 3 S l
 | [],_,_,_=>rfl
 | [_],_,_,_=>rfl
 | a::o::r,S,hr,hs=>by
  rw[aX] at hs
  simp only[Bool.and_eq_true,decide_eq_true_eq] at hs
  obtain ⟨⟨⟨h1,h2⟩,h3⟩,h4⟩:=hs
  have hc:(Wd.bt a-48).toNat<n:=by omega
  rw[cB,cB,BD hr hn _ hc,Cb hn r _ (hr.command 3 _ hc _) h4]
theorem Qw (ao:Option Addr)(ci:Nat)(its:List Wd.It)(lg:Nat->Nat):∀i,i<79->(mA (.slice ao its.length ci))[i]?=some (pmF ao ci its lg (aM its) i):=by
 intro i hi
 unfold pmF
 by_cases h0:i=0
 ·subst h0;rfl
 ·rw[if_neg h0]
  have hc:((aM its).cp ((i-1) / 26))=bU:=rfl
  unfold pcF
  rw[hc]
  obtain ⟨j,hj⟩:∃j,i=j+1:=⟨i-1,by omega⟩
  subst hj
  rw[Nat.add_sub_cancel]
  have e:∀m,m<26->(if m<13 then fpC its lg bU.t bU.off m else fpC its lg bU.h bU.h.there (m-13))=fpC its lg aH false (m%13):=by
   intro m hm
   by_cases h:m<13
   ·rw[if_pos h,Nat.mod_eq_of_lt h];rfl
   ·rw[if_neg h,show m%13=m-13 by omega];rfl
  rw[e _ (Nat.mod_lt _ (by omega)),show j%26%13=j%13 by omega]
  have hz:∀j,j<78->(mA (.slice ao its.length ci))[j+1]?=some (([.bool false,.int .i64 0,.bool false,.string ⟨#[]⟩,.slice none 0 0,.int .i64 0,.bool false,.bool false,.bool false,.bool false,.bool false,.bool false,.bool false]:List Value)[j%13]?.getD undef):=by
   intro j hj
   have:∀j,j<78->([.bool false,.int .i64 0,.bool false,.string ⟨#[]⟩,.slice none 0 0,.int .i64 0,.bool false,.bool false,.bool false,.bool false,.bool false,.bool false,.bool false,.bool false,.int .i64 0,.bool false,.string ⟨#[]⟩,.slice none 0 0,.int .i64 0,.bool false,.bool false,.bool false,.bool false,.bool false,.bool false,.bool false,.bool false,.int .i64 0,.bool false,.string ⟨#[]⟩,.slice none 0 0,.int .i64 0,.bool false,.bool false,.bool false,.bool false,.bool false,.bool false,.bool false,.bool false,.int .i64 0,.bool false,.string ⟨#[]⟩,.slice none 0 0,.int .i64 0,.bool false,.bool false,.bool false,.bool false,.bool false,.bool false,.bool false,.bool false,.int .i64 0,.bool false,.string ⟨#[]⟩,.slice none 0 0,.int .i64 0,.bool false,.bool false,.bool false,.bool false,.bool false,.bool false,.bool false,.bool false,.int .i64 0,.bool false,.string ⟨#[]⟩,.slice none 0 0,.int .i64 0,.bool false,.bool false,.bool false,.bool false,.bool false,.bool false,.bool false]:List Value)[j]?=some (([.bool false,.int .i64 0,.bool false,.string ⟨#[]⟩,.slice none 0 0,.int .i64 0,.bool false,.bool false,.bool false,.bool false,.bool false,.bool false,.bool false]:List Value)[j%13]?.getD undef):=by
    intro j hj
    repeat (first|(exfalso;omega)|(rcases j with _|j;rfl))
   have h1:=this j hj
   rw[<-Array.getElem?_toList]
   exact h1
  rw[hz j (by omega),fpC,TP]
theorem TQ {w:World}{its:List Wd.It}{N:Nat}{ao:Option Addr}{cc:Nat}{lg:Nat->Nat}(hl:its.length<=8)(h:BM w N its its.length (.slice ao its.length cc) lg):PM (w.alloc (.cells (mA (.slice ao its.length cc)) 98)) w.heap.size ao cc lg its (aM its)/\(∀g,ao=some ⟨g,0,none⟩->N<=g/\g<w.heap.size):=by
 have hlt:∀g,ao=some ⟨g,0,none⟩->N<=g/\g<w.heap.size:=fun g e=>h.own.lt g (by rw[e];rfl)
 refine ⟨⟨?_,fun hp=>?_,fun i hi=>?_,?_,?_⟩,hlt⟩
 ·exact (Row.new w (mA (.slice ao its.length cc)) 98).blk (Qw ao cc its lg)
 ·rcases h.own.2 with ⟨e,h0⟩ | ⟨g,cap,cur,e,hb,hg,h1,h2,h3,h4⟩
  ·omega
  ·cases e
   refine ⟨g,rfl,⟨cur,150,?_,fun i hi=>?_⟩,?_⟩
   ·rw[heap_alloc_old _ _ (bB hg)];exact hg
   ·rw[<-wE its lg its.length i hi,<-h4,List.getElem?_take,if_pos hi,Array.getElem?_toList]
   ·have:=bB hg;omega
 ·obtain ⟨b1,b2,b3⟩:=h.lead i hi
  refine ⟨b1.alloc _,by have:=b1.lt;omega,fun e=>b3 (by rw[e];rfl)⟩
 ·rcases h.own.2 with ⟨e,h0⟩ | ⟨g,cap,cur,e,hb,hg,h1,h2,h3,h4⟩
  ·injection e with e1 e2 e3
   exact ⟨by omega,by rw[e3];exact Nat.zero_le _,hl⟩
  ·cases e;exact ⟨h1,h2,hl⟩
 ·intro e
  have:=hlt _ e;omega
theorem Qx (s:ByteArray)(n:Nat)(t:ByteArray)(w:World)(its:List Wd.It)(hs:s.size<=240)(ht:t.size<=200000)(hn:n<=3)(hn1:1<=n)(hread:Wd.aF s.data.toList=.ok its)(hsc:aX n t.data.toList=true) :
  Calls Tryz.prog 36 #[.string s,.int .i64 n,.string t] w fun e w'=>e=.returned (.tuple #[.string (Wd.mkS (cB its n (aM its) t.data.toList)),.int .i64 0])/\Below w.heap.size w w':=by
 have HF:=hide (jP hread)
 have AU:=kZ s w (by unfold maxLen;omega)
 rw[hread] at AU
 have HAU:=hide AU
 have AI:=hide (fun W=>Ca t n W ht (by omega) (by omega))
 rw[hsc] at AI
 rw[Cb hn _ _ (Mc.Rest.aM its n) hsc]
 have HSC:=hide hsc
 clear AU hread hsc
 go_enter Tryz.func36,Tryz.ntmps36
 go_wp2_with fail
 go_at_call 35
 refine HAU.out.mono ?_
 rintro e w1 ⟨hb1,g,cap,rfl,hown⟩
 obtain ⟨ai,ci,hv,sK,sM,hit⟩:=yG hown
 have AB:=hide (Oy w1 its ai ci HF.out.len HF.out.ok (fun i hi=>by have:=HF.out.short i hi;omega) ⟨sK,sM⟩ hit)
 rw[<-hv] at AB
 have HB1:=hide hb1
 clear hown hit hb1 hv
 go_wp2_with (first|(go_at_call 60;refine AB.out.mono ?_;rintro e w2 ⟨v,lg,rfl,hbm,hb2⟩;obtain ⟨ao,cc,hv⟩:=bq hbm.own;subst hv;have HP:=hide (TQ HF.out.len hbm);have HB2:=hide (ak HB1.out hb2);have hs2:w1.heap.size<=w2.heap.size:=hb2.size;have hs1:w.heap.size<=w1.heap.size:=HB1.out.size;clear hbm hb2)|(go_at_call 59;refine (AI.out _).mono ?_;rintro e w' ⟨rfl,hww⟩;obtain rfl:=hww.symm;clear hww)|(refine BI rfl rfl ?_)|(refine wpList_store_row rfl 98 _ _ rfl _ (mA (.slice ao its.length cc)) rfl rfl 98 (mA (.slice none 0 0)) ?_ (Tryz.iMachA _) (by rw[zw,zw]) (zJ _ _ _) ?_;(exact heap_alloc_last _ _);rw[World.setRow_alloc_new];have HB3:=hide (aL HB2.out (.cells (mA (.slice ao its.length cc)) 98));have hs3:w2.heap.size<(w2.alloc (.cells (mA (.slice ao its.length cc)) 98)).heap.size:=(Row.new w2 (mA (.slice ao its.length cc)) 98).lt;generalize w2.alloc (.cells (mA (.slice ao its.length cc)) 98)=w3 at *;have APL:=hide (Qu w3 w2.heap.size ao cc lg its (aM its) n t HP.out.1 HF.out.ok (Mc.Inv.aM its 3) HF.out (Ats.aM its 3) (Mc.Rest.aM its 3) hn ht HSC.out (fun g e=>by have:=HP.out.2 g e;omega)))|(go_at_call 61;refine APL.out.mono ?_;rintro e w4 ⟨rfl,hk4⟩))
 go_ret2
 refine ⟨rfl,?_⟩
 have hk:Below w.heap.size w3 w4:=⟨hk4.below.os,hk4.below.tape,hk4.below.output,hk4.below.size,fun k hk=>hk4.same k (by omega) (by omega) (fun e=>by have:=HP.out.2 k e;omega)⟩
 exact HB3.out.trans hk
theorem Oz (s:ByteArray)(au:Int)(t:ByteArray)(w:World)(hs:s.size<=maxLen)(ht:t.size<=maxLen)(hc0:-9223372036854775808<=au)(hc1:au<=9223372036854775807)(h:240<s.size\/200000<t.size) :
  Calls Tryz.prog 36 #[.string s,.int .i64 au,.string t] w fun e w'=>e=.returned (.tuple #[.string (Wd.mkS []),.int .i64 1])/\Below w.heap.size w w':=by
 unfold maxLen at hs ht
 by_cases h1:240<s.size
 ·clear h
  go_enter Tryz.func36,Tryz.ntmps36
  go_wp2
  all_goals first|(exfalso;omega)|(go_ret2;exact ⟨rfl,Below.refl _ _⟩)
 ·have h2:200000<t.size:=by omega
  clear h
  go_enter Tryz.func36,Tryz.ntmps36
  go_wp2
  all_goals first|(exfalso;omega)|(go_ret2;exact ⟨rfl,Below.refl _ _⟩)
theorem Qy (s:ByteArray)(au:Int)(t:ByteArray)(w:World)(hs:s.size<=maxLen)(ht:t.size<=maxLen)(hc0:-9223372036854775808<=au)(hc1:au<=9223372036854775807)(h1:s.size<=240)(h2:t.size<=200000)(x:Int×Int)(hx:x.1≠0)(hread:Wd.aF s.data.toList=.error x) :
  Calls Tryz.prog 36 #[.string s,.int .i64 au,.string t] w fun e w'=>e=.returned (.tuple #[.string (Wd.mkS []),.int .i64 x.1])/\Below w.heap.size w w':=by
 have AU:=kZ s w hs
 rw[hread] at AU
 have HAU:=hide AU
 have t1:(x.1 != 0)=true:=by simp[hx]
 clear AU hread hx
 obtain ⟨x1,x2⟩:=x
 simp only at t1
 go_enter Tryz.func36,Tryz.ntmps36
 go_wp2_with (first|(go_at_call 35;refine HAU.out.mono ?_;rintro e w1 ⟨hb1,rfl⟩))
 all_goals first|(exfalso;omega)|(go_ret2;exact ⟨rfl,hb1⟩)
theorem Qz (s:ByteArray)(au:Int)(t:ByteArray)(w:World)(hs:s.size<=maxLen)(ht:t.size<=maxLen)(hc0:-9223372036854775808<=au)(hc1:au<=9223372036854775807)(h1:s.size<=240)(h2:t.size<=200000)(its:List Wd.It)(hread:Wd.aF s.data.toList=.ok its)(hc:au<1\/3<au) :
  Calls Tryz.prog 36 #[.string s,.int .i64 au,.string t] w fun e w'=>e=.returned (.tuple #[.string (Wd.mkS []),.int .i64 6])/\Below w.heap.size w w':=by
 have AU:=kZ s w hs
 rw[hread] at AU
 have HAU:=hide AU
 clear AU hread
 by_cases hc2:au<1
 all_goals (
  go_enter Tryz.func36,Tryz.ntmps36
  go_wp2_with (first|(go_at_call 35;refine HAU.out.mono ?_;rintro e w1 ⟨hb1,g,cap,rfl,hown⟩))
  all_goals first|(exfalso;omega)|(go_ret2;exact ⟨rfl,hb1⟩))
theorem KN (s:ByteArray)(au:Int)(t:ByteArray)(w:World)(hs:s.size<=maxLen)(ht:t.size<=maxLen)(hc0:-9223372036854775808<=au)(hc1:au<=9223372036854775807)(h1:s.size<=240)(h2:t.size<=200000)(its:List Wd.It)(hread:Wd.aF s.data.toList=.ok its)(hc:1<=au)(hc3:au<=3)(hsc:aX au t.data.toList=false) :
  Calls Tryz.prog 36 #[.string s,.int .i64 au,.string t] w fun e w'=>e=.returned (.tuple #[.string (Wd.mkS []),.int .i64 7])/\Below w.heap.size w w':=by
 have AU:=kZ s w hs
 rw[hread] at AU
 have HAU:=hide AU
 have AI:=hide (fun W=>Ca t au W h2 (by omega) (by omega))
 rw[hsc] at AI
 clear AU hread hsc
 go_enter Tryz.func36,Tryz.ntmps36
 go_wp2_with (first|(go_at_call 35;refine HAU.out.mono ?_;rintro e w1 ⟨hb1,g,cap,rfl,hown⟩)|(go_at_call 59;refine (AI.out _).mono ?_;rintro e w' ⟨rfl,hww⟩;obtain rfl:=hww.symm;clear hww))
 all_goals first|(exfalso;omega)|(go_ret2;exact ⟨rfl,hb1⟩)
theorem QA (s:ByteArray)(au:Int)(t:ByteArray)(w:World)(hs:s.size<=maxLen)(ht:t.size<=maxLen)(hc0:-9223372036854775808<=au)(hc1:au<=9223372036854775807) :
  Calls Tryz.prog 36 #[.string s,.int .i64 au,.string t] w fun e w'=>e=.returned (.tuple #[.string (Wd.mkS (eO s.data.toList au t.data.toList).1),.int .i64 (eO s.data.toList au t.data.toList).2])/\Below w.heap.size w w':=by
 have hls:=Wd.aI s
 have hlt:=Wd.aI t
 by_cases h1:240<s.size\/200000<t.size
 ·have e:eO s.data.toList au t.data.toList=([],1):=by
   have:refuses s.data.toList au t.data.toList=1:=by unfold refuses;rw[if_pos (by omega)]
   unfold eO;rw[this];rfl
  rw[e]
  exact Oz s au t w hs ht hc0 hc1 h1
 have h1':¬(240<s.data.toList.length\/200000<t.data.toList.length):=by omega
 cases hr:Wd.aF s.data.toList with
 | error x =>
  have hx:=Wd.jf hr
  have e:eO s.data.toList au t.data.toList=([],x.1):=by
   have:refuses s.data.toList au t.data.toList=x.1:=by unfold refuses jc;rw[if_neg h1',hr];simp only;rw[if_pos hx]
   unfold eO;rw[this,if_pos hx]
  rw[e]
  exact Qy s au t w hs ht hc0 hc1 (by omega) (by omega) x hx hr
 | ok its =>
  have hb:refuses s.data.toList au t.data.toList=if au<1\/3<au then 6 else if aX au t.data.toList=false then 7 else 0:=by
   unfold refuses jc;rw[if_neg h1',hr];simp
  by_cases h2:au<1\/3<au
  ·have e:eO s.data.toList au t.data.toList=([],6):=by unfold eO;rw[hb,if_pos h2];rfl
   rw[e]
   exact Qz s au t w hs ht hc0 hc1 (by omega) (by omega) its hr h2
  ·rw[if_neg h2] at hb
   cases h3:aX au t.data.toList with
   | false =>
    have e:eO s.data.toList au t.data.toList=([],7):=by unfold eO;rw[hb,if_pos h3];rfl
    rw[e]
    exact KN s au t w hs ht hc0 hc1 (by omega) (by omega) its hr (by omega) (by omega) h3
   | true =>
    have e:eO s.data.toList au t.data.toList=(cB its au.toNat (aM its) t.data.toList,0):=by
     unfold eO;rw[hb,h3,hr];rfl
    rw[e]
    obtain ⟨n,rfl⟩:∃n:Nat,au=n:=⟨au.toNat,by omega⟩
    exact Qx s n t w its (by omega) (by omega) (by omega) (by omega) hr h3
theorem QB (s:ByteArray)(au:Int)(t:ByteArray)(w:World)(hs:s.size<=maxLen)(ht:t.size<=maxLen)(hc0:-9223372036854775808<=au)(hc1:au<=9223372036854775807) :
  Calls Tryz.prog 16 #[.string s,.int .i64 au,.string t] w fun e w'=>e=.returned (.tuple #[.string (Wd.mkS (eO s.data.toList au t.data.toList).1),.int .i64 (eO s.data.toList au t.data.toList).2])/\Below w.heap.size w w':=by
 have AR:=hide (QA s au t w hs ht hc0 hc1)
 generalize (eO s.data.toList au t.data.toList).1=a at *
 generalize (eO s.data.toList au t.data.toList).2=b at *
 go_enter Tryz.func16,Tryz.ntmps16
 go_wp2_with (first|(go_at_call 36;refine AR.out.mono ?_;rintro e w1 ⟨rfl,hb1⟩))
 go_ret2
 exact ⟨rfl,hb1⟩
end
end Go.Proofs.YtecmfdkhcffpmaaGreat
