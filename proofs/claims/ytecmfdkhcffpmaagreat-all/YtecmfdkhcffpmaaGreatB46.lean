/- StN, StO. -/
import Derived.Test.YtecmfdkhcffpmaaGreatB45
import Derived.Test.YtecmfdkhcffpmaaGreatB41
import Derived.Test.YtecmfdkhcffpmaaGreatB37
namespace Go.Proofs.YtecmfdkhcffpmaaGreat
open Go.RowKit
set_option linter.unusedVariables false
set_option linter.unusedSimpArgs false
set_option linter.unusedSectionVars false
set_option maxHeartbeats 8000000
set_option maxRecDepth 100000
section
open Mc
def viV (v:Vi):List Value:=(viA v).toList
theorem nD (v:Vi):(viV v).length=128:=by simp[viV,gq]
theorem qB (v:Vi):(viV v).toArray=viA v:=by simp[viV]
theorem FE (v:Vi):∀u∈viV v,u.oneCell'=true:=by
 intro u hu
 have h:=lQ v
 rw[Array.all_eq_true'] at h
 exact h u (by simpa [viV] using hu)
theorem Tryz.infoVi:(Tryz.prog.info? 187).map (fun i=>(i.zero,i.size,i.bytes))=some (some (.agg (viA cu)),128,128):=by kernel_rfl
structure BfI (w W:World)(v:Value)(V:List Vi):Prop where
 own:W.ownsRow w.heap.size 187 128 v V.length (V.flatMap viV)
 b:Below w.heap.size w W
theorem BfI.below {w W W':World}{v:Value}{V:List Vi}(h:BfI w W v V)(hb:Below W.heap.size W W'):BfI w W' v V:=⟨fO h.own (fun j _ hl=>hb.block j hl),ak h.b hb⟩
theorem BfI.push {w W W':World}{v v':Value}{V:List Vi}{r:Vi}{o:Obj}(h:BfI w W v V)(ho:W'.ownsRow w.heap.size 187 128 v' (V++[r]).length ((V++[r]).flatMap viV))(hb:Below w.heap.size (W.alloc o) W'):BfI w W' v' (V++[r]):=⟨ho,(h.b.alloc h.b.size o).trans hb⟩
theorem BfI.new (w:World):BfI w (w.alloc (.cells #[] 187)) (.slice (some ⟨w.heap.size,0,none⟩) 0 0) []:=⟨vH w _ _ _ (Nat.le_refl _),aD _ _⟩
def pF (c:Nat)(K:List Kn):List Vi:=K.map (fun k=>cZ k.s.data.toList c k.L)
def mq (v:Vi)(V:List Vi):Bool:=V.any (fun o=>jH v o)
theorem Es {v:Vi}{V:List Vi}{j:Nat}{o:Vi}(h:V[j]?=some o):mq v (V.take (j+1))=(mq v (V.take j)||jH v o):=by
 unfold mq
 rw[List.take_add_one,h]
 simp
theorem FH {v:Vi}{V:List Vi}{j:Nat}(h:mq v (V.take j)=true):mq v V=true:=by
 unfold mq at *
 rw[List.any_eq_true] at *
 obtain ⟨x,hx,e⟩:=h
 exact ⟨x,List.mem_of_mem_take hx,e⟩
theorem QZ (c:Nat)(K:List Kn)(i:Nat)(k:Kn)(hk:K[i]?=some k):ja c (K.map kp) (i+1)=(ja c (K.map kp) i||((k.hd&&jH (cZ k.s.data.toList c k.L) (cZ k.s.data.toList c k.L))||mq (cZ k.s.data.toList c k.L) (pF c (K.take i)))):=by
 rw[CZ (k:=kp k) (by rw[List.getElem?_map,hk];rfl)]
 congr 1
 unfold wo mq pF
 rw[<-List.map_take,List.any_map,List.any_map]
 rfl
theorem O9 (c:Nat)(K:List Kn)(i:Nat)(k:Kn)(hk:K[i]?=some k):pF c (K.take (i+1))=pF c (K.take i)++[cZ k.s.data.toList c k.L]:=by
 unfold pF
 rw[List.take_add_one,hk]
 simp
theorem Nb (v:Vi)(w:World):(Instr.buildSlice 184 1 #[(0,.agg (viA v))]).run Tryz.prog w=.ok (.slice (some ⟨w.heap.size,0,none⟩) 1 1) (w.alloc (.cells (viA v) 187)):=by kernel_rfl
theorem BJ {ops:Array Oper}{rest:List Oper}{o:Oper}{a:Act}{w:World}{Q:Exit->Act->World->Prop}(hg:o.guard=none)(x:Operand)(ho:o.op=.buildSlice 184 1 #[(0,x)])(v:Vi)(hx:a.eval x=.agg (viA v))
  (h:wpList Tryz.prog ops Q rest (a.put o.dst (.slice (some ⟨w.heap.size,0,none⟩) 1 1)) (w.alloc (.cells (viA v) 187))):wpList Tryz.prog ops Q (o::rest) a w:=by
 refine wpList_runTo' hg _ _ ?_ h
 unfold execOp
 simp only[ho,Sem.run_bind,Sem.run_pure,List.map_toArray,List.map_cons,List.map_nil,hx,Nb,Result.andThen_ok]
theorem Tryz.sVi:(Tryz.prog.info? 187).map (·.size)=some 128:=by kernel_rfl
theorem AQ {ops:Array Oper}{rest:List Oper}{o:Oper}{a:Act}{w:World}{Q:Exit->Act->World->Prop}(hw:Region.wanted o (yielded ops a.tmps)=true)(ty:TypeId)(x:Operand)(ho:o.op=.load ty x)
  (g:Nat) (hx:a.eval x=.pointer (some ⟨g,0,none⟩)) (t:TypeId) (cs:Array Value) (fr:Nat×Nat) (hg:w.heap[g]?=some (.cells cs t fr)) {fs:Array Field}
  (hu:Tryz.prog.underlying ty=some (.struct fs)) (hi:(Tryz.prog.info? ty).map (·.size)=some cs.size)
  (h:wpList Tryz.prog ops Q rest (a.put o.dst (.agg cs)) w):wpList Tryz.prog ops Q (o::rest) a w :=
 wpList_step fun K hK=>by simp only[hw,if_true];exact wp_load_row ty x ho g hx t cs fr _ hg hu rfl hi (hK _ _ h)
theorem Nc (w:World)(aao:Option Addr)(ac:Nat)(K:List Kn)(c:Nat)(hc:c<4)(hK:lZ w (.slice aao K.length ac) K) :
  Calls Tryz.prog 101 #[.slice aao K.length ac,.int .i64 c] w fun e w'=>e=.returned (.bool (iN c (K.map kp)))/\Below w.heap.size w w':=by
 have HK:=hide hK
 have hl8:=hK.len
 clear hK
 have AC:=hide (fun v o W=>MP v o W)
 have HB0:=hide (BfI.new w)
 obtain ⟨i0,hj0,hz0,hz1,hz2⟩:=info_parts Tryz.infoVi
 have HRP:Hid (∀n,n<=K.length->ja c (K.map kp) n=true->iN c (K.map kp)=true):=hide (fun n hn h=>OL h (by rw[List.length_map];exact hn))
 have HRN:Hid (ja c (K.map kp) K.length=iN c (K.map kp)):=hide (by unfold iN;rw[List.length_map])
 generalize iN c (K.map kp)=RP at *
 go_enter Tryz.func101,Tryz.ntmps101
 go_wp2
 generalize w.alloc (.cells #[] 187)=W at *
 go_loopw [5,14] (fun a d wr=>∃(i:Nat) (V:List Vi),i<=K.length/\d=.int .i64 i/\V=pF c (K.take i)/\BfI w wr a V/\ja c (K.map kp) i=false) (fun _ d _=>K.length-(intOf d).toNat)
 case atStart=>exact ⟨0,[],by omega,rfl,rfl,HB0.out,rfl⟩
 case round =>
  clear HB0
  obtain ⟨i,V,hi,rfl,hV,hbf,hrt⟩:=hrel
  have HB:=hide hbf
  have HV:=hide hV
  have HRT:=hide hrt
  clear hbf hV hrt
  obtain ⟨ao,cc,hv⟩:=bq HB.out.own
  subst hv
  by_cases hlt:i<K.length
  ·obtain ⟨k,hki⟩:∃k,K[i]?=some k:=⟨K[i],List.getElem?_eq_getElem hlt⟩
   have HKn:=hide (HK.out.each k (List.mem_of_getElem? hki))
   obtain ⟨g0,cap0,hv0,_,hg0,_,_,hr0⟩:=fI wh (je HK.out.own HB.out.b) hki
   cases hv0
   obtain ⟨kao,kc,hkv⟩:=bq HKn.out.own
   have HR0:Hid (wr.rangeAt g0 (i*5) #[.bool k.hd,.bool k.hd,.string k.s,.slice (some ⟨k.lg,0,none⟩) k.s.size k.s.size,.slice kao k.L.length kc].toList):=hide (by unfold knV at hr0;rw[hkv] at hr0;exact hr0)
   have AV:=hide (fun W hin=>JG W k kao kc c hc hkv hin)
   have hi0:(0:Int)<=(i:Int):=by omega
   have hVl:V.length<=8:=by rw[HV.out];simp[pF];omega
   have qU:=hide (QZ c K i k hki)
   have HVT:=hide (O9 c K i k hki)
   rw[HRT.out,<-HV.out] at qU
   rw[<-HV.out] at HVT
   clear hki hr0 hkv HV HRT
   generalize cZ k.s.data.toList c k.L=v at *
   have hsz:=HB.out.b.size
   have hdc:k.hd=false\/k.hd=true:=by cases k.hd<;>simp
   rcases hdc with jK|jK
   ·have HHD:=hide jK
    clear jK
    go_wp2_with (first|(refine wpList_store_row rfl 187 _ _ rfl w2.heap.size (viA v) rfl rfl 187 (viA cu) ?_ (Tryz.iVi _) (by rw[gq,gq]) (lQ _) ?_;(exact (Row.new w2 (viA cu) 187).raw);rw[World.setRow_alloc_new];have HB3:=hide (HB2.out.below (aD w2 (.cells (viA v) 187)));have jA:=hide (jB.out.alloc (.cells (viA v) 187));have pG:=hide (Row.new w2 (viA v) 187);have Ho:w2.heap.size<(w2.alloc (.cells (viA v) 187)).heap.size:=(Row.new w2 (viA v) 187).lt;generalize w2.alloc (.cells (viA v) 187)=w3 at *;have y0:w3.cell? ⟨wr.heap.size,0,none⟩=some (.bool false):=(HHD.out ▸ jA.out.cell 0 (v:=.bool k.hd) rfl))|(refine mY rfl rfl ?_)|(go_at_call 125;refine (AV.out _ (HKn.out.below HB1.out.b)).mono ?_;rintro e w2 ⟨rfl,hb2⟩;have HB2:=hide (HB1.out.below hb2);have jB:=hide (gH.out.below hb2);have hz2':=hb2.size;clear hb2)|(refine wpList_load_row rfl 127 _ rfl _ rfl 127 #[.bool k.hd,.bool k.hd,.string k.s,.slice (some ⟨k.lg,0,none⟩) k.s.size k.s.size,.slice kao k.L.length kc] (0,0) _ ?_ Tryz.underlying127 rfl Tryz.iKnown ?_;(exact gH.out.raw))|(refine wpList_store_row rfl 127 _ _ rfl wr.heap.size #[.bool k.hd,.bool k.hd,.string k.s,.slice (some ⟨k.lg,0,none⟩) k.s.size k.s.size,.slice kao k.L.length kc] rfl rfl 127 #[.bool false,.bool false,.string ⟨#[]⟩,.slice none 0 0,.slice none 0 0] ?_ Tryz.iKnown rfl (by simp[Value.oneCell']) ?_;(exact (Row.new wr #[.bool false,.bool false,.string ⟨#[]⟩,.slice none 0 0,.slice none 0 0] 127).raw);rw[World.setRow_alloc_new];have HB1:=hide (HB.out.below (aD wr (.cells #[.bool k.hd,.bool k.hd,.string k.s,.slice (some ⟨k.lg,0,none⟩) k.s.size k.s.size,.slice kao k.L.length kc] 127)));have gH:=hide (Row.new wr #[.bool k.hd,.bool k.hd,.string k.s,.slice (some ⟨k.lg,0,none⟩) k.s.size k.s.size,.slice kao k.L.length kc] 127);have hz1':wr.heap.size<(wr.alloc (.cells #[.bool k.hd,.bool k.hd,.string k.s,.slice (some ⟨k.lg,0,none⟩) k.s.size k.s.size,.slice kao k.L.length kc] 127)).heap.size:=(Row.new wr #[.bool k.hd,.bool k.hd,.string k.s,.slice (some ⟨k.lg,0,none⟩) k.s.size k.s.size,.slice kao k.L.length kc] 127).lt;generalize wr.alloc (.cells #[.bool k.hd,.bool k.hd,.string k.s,.slice (some ⟨k.lg,0,none⟩) k.s.size k.s.size,.slice kao k.L.length kc] 127)=w1 at *;skip)|(refine wpList_load_mid rfl 127 _ rfl _ _ rfl #[.bool k.hd,.bool k.hd,.string k.s,.slice (some ⟨k.lg,0,none⟩) k.s.size k.s.size,.slice kao k.L.length kc].toList _ ?_ Tryz.underlying127 rfl Tryz.iKnown ?_;(exact HR0.out)))
    generalize w2.heap.size=gv at *
    go_loopw [30] (fun d wr=>∃j:Nat,j<=V.length/\d=.int .i64 j/\BfI w wr (.slice ao V.length cc) V/\Row wr gv (viA v) 187/\mq v (V.take j)=false) (fun d _=>V.length-(intOf d).toNat)
    case atStart=>exact ⟨0,by omega,rfl,HB3.out,pG.out,rfl⟩
    case round =>
     obtain ⟨j,hj,rfl,hbi,hvr,han⟩:=hrel
     have HBi:=hide hbi
     have pI:=hide hvr
     have HAN:=hide han
     clear hbi hvr han
     by_cases hjt:j<V.length
     ·obtain ⟨o,ho⟩:∃o,V[j]?=some o:=⟨V[j],List.getElem?_eq_getElem hjt⟩
      obtain ⟨g2,cap2,hv2,_,hg2,_,_,hr2⟩:=fI nD HBi.out.own ho
      cases hv2
      have HO1:=hide hr2
      have HAT:=hide (Es (v:=v) ho)
      have wY:(0:Int)<=(j:Int):=by omega
      obtain ⟨co,hco⟩:∃co,jH v o=co:=⟨_,rfl⟩
      have ACO:=hide (fun W=>AC.out v o W)
      rw[hco] at ACO HAT
      clear hr2 ho hco
      cases co
      ·go_wp2_with (first|(go_at_call 126;refine (ACO.out _).mono ?_;rintro e w6 ⟨rfl,hb6⟩;have HB6:=hide (HB5.out.below hb6);have tQ:=hide (kV.out.below hb6);clear hb6)|(refine wpList_load_row rfl 187 _ rfl _ rfl 187 (viA v) (0,0) _ ?_ Tryz.underlying187 rfl (Tryz.iVi _) ?_;(exact kV.out.raw))|(refine wpList_load_row rfl 187 _ rfl _ rfl 187 (viA o) (0,0) _ ?_ Tryz.underlying187 rfl (Tryz.iVi _) ?_;(exact pJ.out.raw))|(refine wpList_store_row rfl 187 _ _ rfl wr.heap.size (viA o) rfl rfl 187 (viA cu) ?_ (Tryz.iVi _) (by rw[gq,gq]) (lQ _) ?_;(exact (Row.new wr (viA cu) 187).raw);rw[World.setRow_alloc_new];have HB5:=hide (HBi.out.below (aD wr (.cells (viA o) 187)));have kV:=hide (pI.out.alloc (.cells (viA o) 187));have pJ:=hide (Row.new wr (viA o) 187);generalize wr.alloc (.cells (viA o) 187)=w5 at *)|(refine mY rfl rfl ?_)|(refine wpList_load_mid rfl 187 _ rfl _ _ rfl (viV o) _ ?_ Tryz.underlying187 rfl (by rw[nD];exact Tryz.sVi) ?_;(exact HO1.out);rw[qB]))
       go_round
       case measure=>simp[intOf];omega
       case rel=>exact ⟨j+1,by omega,by go_num,HB6.out,tQ.out,by rw[HAT.out,HAN.out];rfl⟩
      ·go_wp2_with (first|(go_at_call 126;refine (ACO.out _).mono ?_;rintro e w6 ⟨rfl,hb6⟩;have HB6:=hide (HB5.out.below hb6);have tQ:=hide (kV.out.below hb6);clear hb6)|(refine wpList_load_row rfl 187 _ rfl _ rfl 187 (viA v) (0,0) _ ?_ Tryz.underlying187 rfl (Tryz.iVi _) ?_;(exact kV.out.raw))|(refine wpList_load_row rfl 187 _ rfl _ rfl 187 (viA o) (0,0) _ ?_ Tryz.underlying187 rfl (Tryz.iVi _) ?_;(exact pJ.out.raw))|(refine wpList_store_row rfl 187 _ _ rfl wr.heap.size (viA o) rfl rfl 187 (viA cu) ?_ (Tryz.iVi _) (by rw[gq,gq]) (lQ _) ?_;(exact (Row.new wr (viA cu) 187).raw);rw[World.setRow_alloc_new];have HB5:=hide (HBi.out.below (aD wr (.cells (viA o) 187)));have kV:=hide (pI.out.alloc (.cells (viA o) 187));have pJ:=hide (Row.new wr (viA o) 187);generalize wr.alloc (.cells (viA o) 187)=w5 at *)|(refine mY rfl rfl ?_)|(refine wpList_load_mid rfl 187 _ rfl _ _ rfl (viV o) _ ?_ Tryz.underlying187 rfl (by rw[nD];exact Tryz.sVi) ?_;(exact HO1.out);rw[qB]))
       go_ret
       exact ⟨bW (by rw[HRP.out (i+1) (by omega) (by rw[qU.out,FH (j:=j+1) (by rw[HAT.out];simp)];simp)]),HB6.out.b⟩
     ·have e:j=V.length:=by omega
      subst e
      rw[List.take_length] at HAN
      go_wp2_with (first|(at_builtin;refine gP (f:=viV) nD rfl _ _ 184 rfl w.heap.size 187 i0 _ 128 Tryz.underlying184 hj0 hz0 hz1 hz2 (gq _) (by decide) _ V v rfl ⟨_,0,none⟩ rfl ?_ ?_ ?_ ?_ ?_ ?_ ?_;(exact HBi.out.own.alloc _);(rw[<-qB];exact eZ _ _ _);(exact FE v);(unfold maxLen;omega);(omega);(have:=HBi.out.b.size;simp;omega);intro ao' cc' w9 hown' aT bn hat';have HO9:=hide hown';have Av:=hide aT;clear hown' aT bn hat')|(refine BJ rfl _ rfl v rfl ?_)|(refine wpList_load_row rfl 187 _ rfl _ rfl 187 (viA v) (0,0) _ ?_ Tryz.underlying187 rfl (Tryz.iVi _) ?_;(exact pI.out.raw)))
      go_round
      case measure=>simp[intOf];omega
      case rel=>exact ⟨i+1,_,by omega,by go_num,HVT.out.symm,HBi.out.push HO9.out Av.out,by rw[qU.out,HAN.out,HHD.out];simp⟩
   ·have HHD:=hide jK
    clear jK
    obtain ⟨cv,hcv⟩:∃cv,jH v v=cv:=⟨_,rfl⟩
    have HCV:=hide hcv
    have AC0:=hide (fun W=>AC.out v v W)
    rw[hcv] at AC0
    clear hcv
    cases cv
    ·go_wp2_with (first|(go_at_call 126;refine (AC0.out _).mono ?_;rintro e w4 ⟨rfl,hb4⟩;have HB4:=hide (HB3.out.below hb4);have Hq:=hide (pG.out.below hb4);clear hb4)|(refine AQ (by rfl) 187 _ rfl _ rfl 187 (viA v) (0,0) ?_ Tryz.underlying187 (Tryz.iVi _) ?_;(exact pG.out.raw))|(refine wpList_store_row rfl 187 _ _ rfl w2.heap.size (viA v) rfl rfl 187 (viA cu) ?_ (Tryz.iVi _) (by rw[gq,gq]) (lQ _) ?_;(exact (Row.new w2 (viA cu) 187).raw);rw[World.setRow_alloc_new];have HB3:=hide (HB2.out.below (aD w2 (.cells (viA v) 187)));have jA:=hide (jB.out.alloc (.cells (viA v) 187));have pG:=hide (Row.new w2 (viA v) 187);have Ho:w2.heap.size<(w2.alloc (.cells (viA v) 187)).heap.size:=(Row.new w2 (viA v) 187).lt;generalize w2.alloc (.cells (viA v) 187)=w3 at *;have y0:w3.cell? ⟨wr.heap.size,0,none⟩=some (.bool true):=(HHD.out ▸ jA.out.cell 0 (v:=.bool k.hd) rfl))|(refine mY rfl rfl ?_)|(go_at_call 125;refine (AV.out _ (HKn.out.below HB1.out.b)).mono ?_;rintro e w2 ⟨rfl,hb2⟩;have HB2:=hide (HB1.out.below hb2);have jB:=hide (gH.out.below hb2);have hz2':=hb2.size;clear hb2)|(refine wpList_load_row rfl 127 _ rfl _ rfl 127 #[.bool k.hd,.bool k.hd,.string k.s,.slice (some ⟨k.lg,0,none⟩) k.s.size k.s.size,.slice kao k.L.length kc] (0,0) _ ?_ Tryz.underlying127 rfl Tryz.iKnown ?_;(exact gH.out.raw))|(refine wpList_store_row rfl 127 _ _ rfl wr.heap.size #[.bool k.hd,.bool k.hd,.string k.s,.slice (some ⟨k.lg,0,none⟩) k.s.size k.s.size,.slice kao k.L.length kc] rfl rfl 127 #[.bool false,.bool false,.string ⟨#[]⟩,.slice none 0 0,.slice none 0 0] ?_ Tryz.iKnown rfl (by simp[Value.oneCell']) ?_;(exact (Row.new wr #[.bool false,.bool false,.string ⟨#[]⟩,.slice none 0 0,.slice none 0 0] 127).raw);rw[World.setRow_alloc_new];have HB1:=hide (HB.out.below (aD wr (.cells #[.bool k.hd,.bool k.hd,.string k.s,.slice (some ⟨k.lg,0,none⟩) k.s.size k.s.size,.slice kao k.L.length kc] 127)));have gH:=hide (Row.new wr #[.bool k.hd,.bool k.hd,.string k.s,.slice (some ⟨k.lg,0,none⟩) k.s.size k.s.size,.slice kao k.L.length kc] 127);have hz1':wr.heap.size<(wr.alloc (.cells #[.bool k.hd,.bool k.hd,.string k.s,.slice (some ⟨k.lg,0,none⟩) k.s.size k.s.size,.slice kao k.L.length kc] 127)).heap.size:=(Row.new wr #[.bool k.hd,.bool k.hd,.string k.s,.slice (some ⟨k.lg,0,none⟩) k.s.size k.s.size,.slice kao k.L.length kc] 127).lt;generalize wr.alloc (.cells #[.bool k.hd,.bool k.hd,.string k.s,.slice (some ⟨k.lg,0,none⟩) k.s.size k.s.size,.slice kao k.L.length kc] 127)=w1 at *;skip)|(refine wpList_load_mid rfl 127 _ rfl _ _ rfl #[.bool k.hd,.bool k.hd,.string k.s,.slice (some ⟨k.lg,0,none⟩) k.s.size k.s.size,.slice kao k.L.length kc].toList _ ?_ Tryz.underlying127 rfl Tryz.iKnown ?_;(exact HR0.out)))
     generalize w2.heap.size=gv at *
     go_loopw [30] (fun d wr=>∃j:Nat,j<=V.length/\d=.int .i64 j/\BfI w wr (.slice ao V.length cc) V/\Row wr gv (viA v) 187/\mq v (V.take j)=false) (fun d _=>V.length-(intOf d).toNat)
     case atStart=>exact ⟨0,by omega,rfl,HB4.out,Hq.out,rfl⟩
     case round =>
      obtain ⟨j,hj,rfl,hbi,hvr,han⟩:=hrel
      have HBi:=hide hbi
      have pI:=hide hvr
      have HAN:=hide han
      clear hbi hvr han
      by_cases hjt:j<V.length
      ·obtain ⟨o,ho⟩:∃o,V[j]?=some o:=⟨V[j],List.getElem?_eq_getElem hjt⟩
       obtain ⟨g2,cap2,hv2,_,hg2,_,_,hr2⟩:=fI nD HBi.out.own ho
       cases hv2
       have HO1:=hide hr2
       have HAT:=hide (Es (v:=v) ho)
       have wY:(0:Int)<=(j:Int):=by omega
       obtain ⟨co,hco⟩:∃co,jH v o=co:=⟨_,rfl⟩
       have ACO:=hide (fun W=>AC.out v o W)
       rw[hco] at ACO HAT
       clear hr2 ho hco
       cases co
       ·go_wp2_with (first|(go_at_call 126;refine (ACO.out _).mono ?_;rintro e w6 ⟨rfl,hb6⟩;have HB6:=hide (HB5.out.below hb6);have tQ:=hide (kV.out.below hb6);clear hb6)|(refine wpList_load_row rfl 187 _ rfl _ rfl 187 (viA v) (0,0) _ ?_ Tryz.underlying187 rfl (Tryz.iVi _) ?_;(exact kV.out.raw))|(refine wpList_load_row rfl 187 _ rfl _ rfl 187 (viA o) (0,0) _ ?_ Tryz.underlying187 rfl (Tryz.iVi _) ?_;(exact pJ.out.raw))|(refine wpList_store_row rfl 187 _ _ rfl wr.heap.size (viA o) rfl rfl 187 (viA cu) ?_ (Tryz.iVi _) (by rw[gq,gq]) (lQ _) ?_;(exact (Row.new wr (viA cu) 187).raw);rw[World.setRow_alloc_new];have HB5:=hide (HBi.out.below (aD wr (.cells (viA o) 187)));have kV:=hide (pI.out.alloc (.cells (viA o) 187));have pJ:=hide (Row.new wr (viA o) 187);generalize wr.alloc (.cells (viA o) 187)=w5 at *)|(refine mY rfl rfl ?_)|(refine wpList_load_mid rfl 187 _ rfl _ _ rfl (viV o) _ ?_ Tryz.underlying187 rfl (by rw[nD];exact Tryz.sVi) ?_;(exact HO1.out);rw[qB]))
        go_round
        case measure=>simp[intOf];omega
        case rel=>exact ⟨j+1,by omega,by go_num,HB6.out,tQ.out,by rw[HAT.out,HAN.out];rfl⟩
       ·go_wp2_with (first|(go_at_call 126;refine (ACO.out _).mono ?_;rintro e w6 ⟨rfl,hb6⟩;have HB6:=hide (HB5.out.below hb6);have tQ:=hide (kV.out.below hb6);clear hb6)|(refine wpList_load_row rfl 187 _ rfl _ rfl 187 (viA v) (0,0) _ ?_ Tryz.underlying187 rfl (Tryz.iVi _) ?_;(exact kV.out.raw))|(refine wpList_load_row rfl 187 _ rfl _ rfl 187 (viA o) (0,0) _ ?_ Tryz.underlying187 rfl (Tryz.iVi _) ?_;(exact pJ.out.raw))|(refine wpList_store_row rfl 187 _ _ rfl wr.heap.size (viA o) rfl rfl 187 (viA cu) ?_ (Tryz.iVi _) (by rw[gq,gq]) (lQ _) ?_;(exact (Row.new wr (viA cu) 187).raw);rw[World.setRow_alloc_new];have HB5:=hide (HBi.out.below (aD wr (.cells (viA o) 187)));have kV:=hide (pI.out.alloc (.cells (viA o) 187));have pJ:=hide (Row.new wr (viA o) 187);generalize wr.alloc (.cells (viA o) 187)=w5 at *)|(refine mY rfl rfl ?_)|(refine wpList_load_mid rfl 187 _ rfl _ _ rfl (viV o) _ ?_ Tryz.underlying187 rfl (by rw[nD];exact Tryz.sVi) ?_;(exact HO1.out);rw[qB]))
        go_ret
        exact ⟨bW (by rw[HRP.out (i+1) (by omega) (by rw[qU.out,FH (j:=j+1) (by rw[HAT.out];simp)];simp)]),HB6.out.b⟩
      ·have e:j=V.length:=by omega
       subst e
       rw[List.take_length] at HAN
       go_wp2_with (first|(at_builtin;refine gP (f:=viV) nD rfl _ _ 184 rfl w.heap.size 187 i0 _ 128 Tryz.underlying184 hj0 hz0 hz1 hz2 (gq _) (by decide) _ V v rfl ⟨_,0,none⟩ rfl ?_ ?_ ?_ ?_ ?_ ?_ ?_;(exact HBi.out.own.alloc _);(rw[<-qB];exact eZ _ _ _);(exact FE v);(unfold maxLen;omega);(omega);(have:=HBi.out.b.size;simp;omega);intro ao' cc' w9 hown' aT bn hat';have HO9:=hide hown';have Av:=hide aT;clear hown' aT bn hat')|(refine BJ rfl _ rfl v rfl ?_)|(refine wpList_load_row rfl 187 _ rfl _ rfl 187 (viA v) (0,0) _ ?_ Tryz.underlying187 rfl (Tryz.iVi _) ?_;(exact pI.out.raw)))
       go_round
       case measure=>simp[intOf];omega
       case rel=>exact ⟨i+1,_,by omega,by go_num,HVT.out.symm,HBi.out.push HO9.out Av.out,by rw[qU.out,HAN.out,HCV.out];simp⟩
    ·go_wp2_with (first|(go_at_call 126;refine (AC0.out _).mono ?_;rintro e w4 ⟨rfl,hb4⟩;have HB4:=hide (HB3.out.below hb4);have Hq:=hide (pG.out.below hb4);clear hb4)|(refine AQ (by rfl) 187 _ rfl _ rfl 187 (viA v) (0,0) ?_ Tryz.underlying187 (Tryz.iVi _) ?_;(exact pG.out.raw))|(refine wpList_store_row rfl 187 _ _ rfl w2.heap.size (viA v) rfl rfl 187 (viA cu) ?_ (Tryz.iVi _) (by rw[gq,gq]) (lQ _) ?_;(exact (Row.new w2 (viA cu) 187).raw);rw[World.setRow_alloc_new];have HB3:=hide (HB2.out.below (aD w2 (.cells (viA v) 187)));have jA:=hide (jB.out.alloc (.cells (viA v) 187));have pG:=hide (Row.new w2 (viA v) 187);have Ho:w2.heap.size<(w2.alloc (.cells (viA v) 187)).heap.size:=(Row.new w2 (viA v) 187).lt;generalize w2.alloc (.cells (viA v) 187)=w3 at *;have y0:w3.cell? ⟨wr.heap.size,0,none⟩=some (.bool true):=(HHD.out ▸ jA.out.cell 0 (v:=.bool k.hd) rfl))|(refine mY rfl rfl ?_)|(go_at_call 125;refine (AV.out _ (HKn.out.below HB1.out.b)).mono ?_;rintro e w2 ⟨rfl,hb2⟩;have HB2:=hide (HB1.out.below hb2);have jB:=hide (gH.out.below hb2);have hz2':=hb2.size;clear hb2)|(refine wpList_load_row rfl 127 _ rfl _ rfl 127 #[.bool k.hd,.bool k.hd,.string k.s,.slice (some ⟨k.lg,0,none⟩) k.s.size k.s.size,.slice kao k.L.length kc] (0,0) _ ?_ Tryz.underlying127 rfl Tryz.iKnown ?_;(exact gH.out.raw))|(refine wpList_store_row rfl 127 _ _ rfl wr.heap.size #[.bool k.hd,.bool k.hd,.string k.s,.slice (some ⟨k.lg,0,none⟩) k.s.size k.s.size,.slice kao k.L.length kc] rfl rfl 127 #[.bool false,.bool false,.string ⟨#[]⟩,.slice none 0 0,.slice none 0 0] ?_ Tryz.iKnown rfl (by simp[Value.oneCell']) ?_;(exact (Row.new wr #[.bool false,.bool false,.string ⟨#[]⟩,.slice none 0 0,.slice none 0 0] 127).raw);rw[World.setRow_alloc_new];have HB1:=hide (HB.out.below (aD wr (.cells #[.bool k.hd,.bool k.hd,.string k.s,.slice (some ⟨k.lg,0,none⟩) k.s.size k.s.size,.slice kao k.L.length kc] 127)));have gH:=hide (Row.new wr #[.bool k.hd,.bool k.hd,.string k.s,.slice (some ⟨k.lg,0,none⟩) k.s.size k.s.size,.slice kao k.L.length kc] 127);have hz1':wr.heap.size<(wr.alloc (.cells #[.bool k.hd,.bool k.hd,.string k.s,.slice (some ⟨k.lg,0,none⟩) k.s.size k.s.size,.slice kao k.L.length kc] 127)).heap.size:=(Row.new wr #[.bool k.hd,.bool k.hd,.string k.s,.slice (some ⟨k.lg,0,none⟩) k.s.size k.s.size,.slice kao k.L.length kc] 127).lt;generalize wr.alloc (.cells #[.bool k.hd,.bool k.hd,.string k.s,.slice (some ⟨k.lg,0,none⟩) k.s.size k.s.size,.slice kao k.L.length kc] 127)=w1 at *;skip)|(refine wpList_load_mid rfl 127 _ rfl _ _ rfl #[.bool k.hd,.bool k.hd,.string k.s,.slice (some ⟨k.lg,0,none⟩) k.s.size k.s.size,.slice kao k.L.length kc].toList _ ?_ Tryz.underlying127 rfl Tryz.iKnown ?_;(exact HR0.out)))
     go_ret
     exact ⟨bW (by rw[HRP.out (i+1) (by omega) (by rw[qU.out,HHD.out,HCV.out];simp)]),HB4.out.b⟩
  ·have e:i=K.length:=by omega
   subst e
   rw[HRN.out] at HRT
   have hRP:=HRT.out
   subst hRP
   go_wp2
   go_ret
   exact ⟨rfl,HB.out.b⟩
end
section
open Mc
theorem Pb (w:World)(aao:Option Addr)(ac:Nat)(K:List Kn)(hK:lZ w (.slice aao K.length ac) K) :
  Calls Tryz.prog 76 #[.slice aao K.length ac] w fun e w'=>∃ao cc,e=.returned (.slice ao (eF (fun c=>iN c (K.map kp)) 4).length cc)/\bD w w' (.slice ao (eF (fun c=>iN c (K.map kp)) 4).length cc) (eF (fun c=>iN c (K.map kp)) 4):=by
 have HK:=hide hK
 have AR:Hid (∀(c:Nat) (W:World),c<4->Below w.heap.size w W->Calls Tryz.prog 101 #[.slice aao K.length ac,.int .i64 c] W fun e w'=>e=.returned (.bool ((fun c=>iN c (K.map kp)) c))/\Below W.heap.size W w'):=hide (fun c W hc hb=>Nc W aao ac K c hc (hK.below hb))
 clear hK
 have HR0:=hide (bD.new w)
 generalize (fun c=>iN c (K.map kp))=P at *
 obtain ⟨i0,hj0,hz0,hz1,hz2⟩:=info_parts Tryz.infoRep
 go_enter Tryz.func76,Tryz.ntmps76
 go_wp2
 go_loopw [3,4] (fun a d wr=>∃c:Nat,c<=4/\d=.int .i64 c/\bD w wr a (eF P c)) (fun _ d _=>4-(intOf d).toNat)
 case atStart=>exact ⟨0,by omega,rfl,HR0.out⟩
 case round =>
  clear HR0
  obtain ⟨c,hc,rfl,hr⟩:=hrel
  have HR:=hide hr
  clear hr
  obtain ⟨ao,cc,hv⟩:=bq HR.out.own
  subst hv
  by_cases hlt:c<4
  ·have hc0:(0:Int)<=(c:Int):=by omega
   have hlen:=qg P c
   have hsz:=HR.out.b.size
   have dH:=hide (El P c)
   have hno:=hide (EX P c)
   have ARc:=hide (fun W hb=>AR.out c W hlt hb)
   generalize P c=o at *
   cases o
   ·go_wp2_with (first|(go_at_call 101;refine (ARc.out _ HR.out.b).mono ?_;rintro e w1 ⟨rfl,hb1⟩;have HR1:=hide (HR.out.below hb1);have hz:=hb1.size;clear hb1))
    go_round
    case measure=>simp[intOf];omega
    case rel=>exact ⟨c+1,by omega,by go_num,by rw[hno.out (by first|rfl|trivial)];exact HR1.out⟩
   ·go_wp2_with (first|(at_builtin;refine gP (f:=rpV) iY rfl _ _ 40 rfl (w.heap.size) 23 i0 _ 24 Tryz.underlying40 hj0 hz0 hz1 hz2 rfl (by decide) _ (eF P c) (7,-1,((c:Nat):Int)) rfl ⟨_,0,none⟩ rfl ?_ ?_ ?_ ?_ ?_ ?_ ?_;(exact HR1.out.own.alloc _);(exact eZ _ _ _);(intro x hx;simp[rpV] at hx;rcases hx with rfl|rfl|rfl<;>rfl);(unfold maxLen;omega);(omega);(exact (by simp;omega));intro ao' cc' w2 hown' aT bn hat';have kU:=hide hown';have jX:=hide aT;clear hown' aT bn hat')|(go_at_call 101;refine (ARc.out _ HR.out.b).mono ?_;rintro e w1 ⟨rfl,hb1⟩;have HR1:=hide (HR.out.below hb1);have hz:=hb1.size;clear hb1))
    go_round
    case measure=>simp[intOf];omega
    case rel=>exact ⟨c+1,by omega,by go_num,by rw[dH.out (by first|rfl|trivial)];exact HR1.out.push kU.out jX.out⟩
  ·have e:c=4:=by omega
   subst e
   go_wp2
   go_ret
   exact ⟨ao,cc,rfl,HR.out⟩
structure Ki where
 g:Nat
 n:Nat
 f:Nat->Int
def kiV (k:Ki):List Value:=[.slice (some ⟨k.g,0,none⟩) k.n k.n]
theorem FI (k:Ki):(kiV k).length=1:=rfl
structure qJ (w:World)(v:Value)(M:List Ki):Prop where
 own:w.ownsRow 0 55 1 v M.length (M.flatMap kiV)
 each:∀m∈M,Blk w m.g m.n (fun p=>.int .i64 (m.f p))/\m.n<=301
 len:M.length<=8
theorem qJ.below {w w':World}{v:Value}{M:List Ki}(h:qJ w v M)(hb:Below w.heap.size w w'):qJ w' v M:=⟨je h.own hb,fun m hm=>⟨(h.each m hm).1.below hb,(h.each m hm).2⟩,h.len⟩
def kiP (M:List Ki)(k i p:Nat):Bool:=match M[i]? with|some m=>decide (m.f p=(k:Int))|none=>false
def kiN (M:List Ki)(i:Nat):Nat:=match M[i]? with|some m=>m.n|none=>0
theorem F7 {M:List Ki}{i:Nat}{m:Ki}(h:M[i]?=some m)(k p:Nat):kiP M k i p=decide (m.f p=(k:Int)):=by simp[kiP,h]
theorem F8 {M:List Ki}{i:Nat}{m:Ki}(h:M[i]?=some m):kiN M i=m.n:=by simp[kiN,h]
theorem TF {w:World}{v:Value}{M:List Ki}(h:qJ w v M)(i:Nat):kiN M i<=301:=by
 unfold kiN
 cases hq:M[i]? with
 | none=>simp
 | some m=>exact (h.each m (List.mem_of_getElem? hq)).2
theorem KY (w:World)(aao:Option Addr)(ac:Nat)(M:List Ki)(hM:qJ w (.slice aao M.length ac) M) :
  Calls Tryz.prog 99 #[.slice aao M.length ac] w fun e w'=>∃ao cc,e=.returned (.slice ao (bZ (kiP M) (kiN M) M.length 5).length cc)/\bD w w' (.slice ao (bZ (kiP M) (kiN M) M.length 5).length cc) (bZ (kiP M) (kiN M) M.length 5):=by
 have HM:=hide hM
 have hl8:=hM.len
 have HN:Hid (∀i,kiN M i<=301):=hide (TF hM)
 clear hM
 have HR0:=hide (bD.new w)
 obtain ⟨i0,hj0,hz0,hz1,hz2⟩:=info_parts Tryz.infoRep
 go_enter Tryz.func99,Tryz.ntmps99
 go_wp2
 go_loopw [3,4] (fun a d wr=>∃(n:Nat) (X:List Rp),n<=5/\d=.int .i64 ((n:Int)+1)/\X=bZ (kiP M) (kiN M) M.length n/\bD w wr a X) (fun _ d _=>6-(intOf d).toNat)
 case atStart=>exact ⟨0,[],by omega,rfl,rfl,HR0.out⟩
 case round =>
  clear HR0
  obtain ⟨n,X,hn,rfl,hX,hr⟩:=hrel
  have HR:=hide hr
  have HX:=hide hX
  clear hr hX
  obtain ⟨ao,cc,hv⟩:=bq HR.out.own
  subst hv
  have hnI:(n:Int)<=5:=by omega
  by_cases hnt:n<5
  ·have hn4:(n:Int)+1<=5:=by omega
   go_wp2
   go_loopw [3,16] (fun a d wr=>∃(i:Nat) (X:List Rp),i<=M.length/\d=.int .i64 i/\X=bZ (kiP M) (kiN M) M.length n++dU (kiP M) (kiN M) (n+1) i/\bD w wr a X) (fun _ d _=>M.length-(intOf d).toNat)
   case atStart=>exact ⟨0,X,by omega,rfl,by rw[MH,List.append_nil];exact HX.out,HR.out⟩
   case round =>
    clear HR HX
    obtain ⟨i,X,hi,rfl,hX,hr⟩:=hrel
    have HR:=hide hr
    have HX:=hide hX
    clear hr hX
    obtain ⟨ao,cc,hv⟩:=bq HR.out.own
    subst hv
    by_cases hit:i<M.length
    ·obtain ⟨m,hm⟩:∃m,M[i]?=some m:=⟨M[i],List.getElem?_eq_getElem hit⟩
     have HMI:=hide hm
     obtain ⟨g0,cap0,hv0,_,hg0,_,_,hr0⟩:=fI FI (je HM.out.own HR.out.b) hm
     cases hv0
     have x0:wr.cell? ⟨g0,i,none⟩=some (.slice (some ⟨m.g,0,none⟩) m.n m.n):=by have:=hr0 0 _ rfl;simpa using this
     have HBK:=hide (HM.out.each m (List.mem_of_getElem? hm))
     have hmn:=HBK.out.2
     have hi0:(0:Int)<=(i:Int):=by omega
     clear hm hr0
     go_wp2
     go_loopw [3,23] (fun a d wr=>∃(p:Nat) (X:List Rp),p<=m.n/\d=.int .i64 p/\X=bZ (kiP M) (kiN M) M.length n++dU (kiP M) (kiN M) (n+1) i++gU (kiP M (n+1) i) (n+1) i p/\bD w wr a X) (fun _ d _=>m.n-(intOf d).toNat)
     case atStart=>exact ⟨0,X,by omega,rfl,by rw[Ce,List.append_nil];exact HX.out,HR.out⟩
     case round =>
      clear HR HX x0
      obtain ⟨p,X,hp,rfl,hX,hr⟩:=hrel
      have HR:=hide hr
      have HX:=hide hX
      clear hr hX
      obtain ⟨ao,cc,hv⟩:=bq HR.out.own
      subst hv
      by_cases hpt:p<m.n
      ·have y0:wr.cell? ⟨m.g,p,none⟩=some (.int .i64 (m.f p)):=by
        rw[HR.out.b.cell (by exact HBK.out.1.lt)]
        exact HBK.out.1.cell p hpt
       have hp0:(0:Int)<=(p:Int):=by omega
       have hsz:=HR.out.b.size
       have hXl:X.length<=100000:=by
        have h1:=rH (kiP M) (kiN M) M.length n (fun i _=>HN.out i)
        have h2:=ve (kiP M) (kiN M) (n+1) i (fun i _=>HN.out i)
        have h3:=xM (kiP M (n+1) i) (n+1) i p
        have h4:n*(M.length*301)<=5*(8*301):=Nat.mul_le_mul (by omega) (Nat.mul_le_mul_right _ hl8)
        have h5:i*301<=8*301:=Nat.mul_le_mul_right _ (by omega)
        rw[HX.out,List.length_append,List.length_append]
        omega
       have dH:=hide (CU (kiP M (n+1) i) (n+1) i p)
       have hno:=hide (Dz (kiP M (n+1) i) (n+1) i p)
       rw[F7 HMI.out] at dH hno
       generalize m.f p=v at *
       by_cases hv:v=(n:Int)+1
       ·subst hv
        go_wp2_with (first|(at_builtin;refine gP (f:=rpV) iY rfl _ _ 40 rfl (w.heap.size) 23 i0 _ 24 Tryz.underlying40 hj0 hz0 hz1 hz2 rfl (by decide) _ X ((n:Int)+1,((i:Nat):Int),((p:Nat):Int)) rfl ⟨_,0,none⟩ rfl ?_ ?_ ?_ ?_ ?_ ?_ ?_;(exact HR.out.own.alloc _);(exact eZ _ _ _);(intro x hx;simp[rpV] at hx;rcases hx with rfl|rfl|rfl<;>rfl);(unfold maxLen;omega);(omega);(exact (by simp;omega));intro ao' cc' w2 hown' aT bn hat';have kU:=hide hown';have jX:=hide aT;clear hown' aT bn hat'))
        go_round
        case measure=>simp[intOf];omega
        case rel=>exact ⟨p+1,_,by omega,by go_num,by rw[dH.out (by simp),<-List.append_assoc,<-HX.out];rfl,HR.out.push kU.out jX.out⟩
       ·have HVN:=hide hv
        have hv':(v==(n:Int)+1)=false:=by simpa using hv
        go_wp2
        go_round
        case measure=>simp[intOf];omega
        case rel=>exact ⟨p+1,X,by omega,by go_num,by rw[hno.out (by simp;exact HVN.out)];exact HX.out,HR.out⟩
      ·have e:p=m.n:=by omega
       subst e
       go_wp2
       go_round
       case measure=>simp[intOf];omega
       case rel=>exact ⟨i+1,X,by omega,by go_num,by rw[rA,F8 HMI.out,<-List.append_assoc];exact HX.out,HR.out⟩
    ·have e:i=M.length:=by omega
     subst e
     go_wp2
     go_round
     case measure=>simp[intOf];omega
     case rel=>exact ⟨n+1,X,by omega,by go_num,by rw[rC];exact HX.out,HR.out⟩
  ·have e:n=5:=by omega
   subst e
   go_wp2
   go_ret
   exact ⟨ao,cc,by rw[<-HX.out];rfl,by rw[<-HX.out];exact HR.out⟩
end
end Go.Proofs.YtecmfdkhcffpmaaGreat
