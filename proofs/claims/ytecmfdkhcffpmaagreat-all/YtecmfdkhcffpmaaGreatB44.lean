/- DocH. -/
import Derived.Test.YtecmfdkhcffpmaaGreatB43
import Derived.Test.YtecmfdkhcffpmaaGreatB42
namespace Go.Proofs.YtecmfdkhcffpmaaGreat
open Go.RowKit
set_option linter.unusedVariables false
set_option linter.unusedSimpArgs false
set_option linter.unusedSectionVars false
set_option maxHeartbeats 8000000
set_option maxRecDepth 100000
section
open Mc
theorem Tryz.iTbD (T:Tb):(Tryz.prog.info? 72).map (·.size)=some (tbA T).size:=by rw[fE];kernel_rfl
theorem M6 (ρ:Operand->Value)(d:Option Tmp)(ty:TypeId)(ps:String)(af:Array Edge)(g:Option (Nat×Bool))(w:World) :
  (execOp ρ {dst:=d,op:=.alloc 72,type:=ty,pos:=ps,after:=af,guard:=g}).run Tryz.prog w=.ok (.value (.pointer (some ⟨w.heap.size,0,none⟩))) (w.alloc (.cells (tbA (fun _ _=>false)) 72)):=by kernel_rfl
theorem xu {ops:Array Oper}{rest:List Oper}{o:Oper}{a:Act}{w:World}{Q:Exit->Act->World->Prop}(hg:o.guard=none)(ho:o.op=.alloc 72)
  (h:wpList Tryz.prog ops Q rest (a.put o.dst (.pointer (some ⟨w.heap.size,0,none⟩))) (w.alloc (.cells (tbA (fun _ _=>false)) 72))):wpList Tryz.prog ops Q (o::rest) a w:=by
 obtain ⟨d,op,ty,ps,af,g⟩:=o
 simp only at ho hg
 subst ho
 exact wpList_runTo' hg _ _ (M6 _ _ _ _ _ _ _) h
theorem Sq {w:World}{g o:Nat}{v:Value}(h:w.cell? ⟨g,o,none⟩=some v):g<w.heap.size:=by
 by_cases hl:g<w.heap.size
 ·exact hl
 ·have:w.heap[g]?=none:=Array.getElem?_eq_none (by omega)
  simp[World.cell?,this] at h
structure EdM (w W:World)(T:Tb)(op tk:Nat->Bool):Prop where
 res:Row W w.heap.size (tbA (fun _ _=>false)) 72
 out:Row W (w.heap.size+1) (tbA T) 72
 op:Row W (w.heap.size+2) (bsA 6 op) 70
 tk:Row W (w.heap.size+3) (bsA 6 tk) 70
 b:Below w.heap.size w W
theorem EdM.below {w W W':World}{T:Tb}{op tk:Nat->Bool}(h:EdM w W T op tk)(hb:Below W.heap.size W W'):EdM w W' T op tk:=⟨h.res.below hb,h.out.below hb,h.op.below hb,h.tk.below hb,ak h.b hb⟩
theorem EdM.congr {w W:World}{T T':Tb}{op tk op' tk':Nat->Bool}(h:EdM w W T op tk)(h1:∀l,l<6->∀m,m<6->T' l m=T l m)(h2:∀l,l<6->op' l=op l)(h3:∀l,l<6->tk' l=tk l):EdM w W T' op' tk':=⟨h.res,by rw[qh h1];exact h.out,by rw[lG h2];exact h.op,by rw[lG h3];exact h.tk,h.b⟩
theorem EdM.fK {w W:World}{T:Tb}{op tk:Nat->Bool}(h:EdM w W T op tk)(l m:Nat)(hl:l<6)(hm:m<6)(v:Bool):EdM w (W.setCell ⟨w.heap.size+1,l*6+m,none⟩ (.bool v)) (upT T l m v) op tk:=⟨h.res.aA (by omega) _ _,by rw[<-wm T l m hl hm v];exact h.out.set _ _,h.op.aA (by omega) _ _,h.tk.aA (by omega) _ _,h.b.setCell (show w.heap.size<=w.heap.size+1 by omega) _⟩
theorem EdM.aA {w W:World}{T:Tb}{op tk:Nat->Bool}(h:EdM w W T op tk)(l:Nat)(v:Bool):EdM w (W.setCell ⟨w.heap.size+2,l,none⟩ (.bool v)) T (fun i=>if i=l then v else op i) tk:=⟨h.res.aA (by omega) _ _,h.out.aA (by omega) _ _,by rw[<-qA];exact h.op.set _ _,h.tk.aA (by omega) _ _,h.b.setCell (show w.heap.size<=w.heap.size+2 by omega) _⟩
theorem EdM.wV {w W:World}{T:Tb}{op tk:Nat->Bool}(h:EdM w W T op tk)(l:Nat)(v:Bool):EdM w (W.setCell ⟨w.heap.size+3,l,none⟩ (.bool v)) T op (fun i=>if i=l then v else tk i):=⟨h.res.aA (by omega) _ _,h.out.aA (by omega) _ _,h.op.aA (by omega) _ _,by rw[<-qA];exact h.tk.set _ _,h.b.setCell (show w.heap.size<=w.heap.size+3 by omega) _⟩
theorem EdM.drew {w W:World}{T:Tb}{op tk:Nat->Bool}(h:EdM w W T op tk):EdM w W.drew T op tk:=⟨h.res,h.out,h.op,h.tk,h.b.drew⟩
def lastT (T:Tb)(op tk:Nat->Bool)(l m:Nat):Tb:=fun x y=>T x y||((decide (x<l)||(decide (x=l)&&decide (y<m)))&&op x&&tk y)
theorem O5 (T:Tb)(op tk:Nat->Bool)(l:Nat):∀x,x<6->∀y,y<6->lastT T op tk (l+1) 0 x y=lastT T op tk l 6 x y:=by
 intro x hx y hy
 unfold lastT
 have:(decide (x<l)||(decide (x=l)&&decide (y<6)))=(decide (x<l+1)||(decide (x=l+1)&&decide (y<0))):=by
  simp[hy]
  by_cases h1:x<l<;>by_cases h2:x=l<;>simp[h1,h2]<;>omega
 rw[this]
theorem M7 (T:Tb)(op tk:Nat->Bool)(l m:Nat):∀x,x<6->∀y,y<6->lastT T op tk l (m+1) x y=upT (lastT T op tk l m) l m (lastT T op tk l m l m||(op l&&tk m)) x y:=by
 intro x hx y hy
 unfold upT
 by_cases e:x=l/\y=m
 ·rw[if_pos e,e.1,e.2];simp[lastT]
 ·rw[if_neg e]
  unfold lastT
  have:(decide (x<l)||(decide (x=l)&&decide (y<m)))=(decide (x<l)||(decide (x=l)&&decide (y<m+1))):=by
   by_cases h3:x=l
   ·have:decide (y<m)=decide (y<m+1):=by simp;omega
    rw[this]
   ·simp[h3]
  rw[this]
theorem O6 (T:Tb)(op tk:Nat->Bool):∀x,x<6->∀y,y<6->lastT T op tk 6 0 x y=(T x y||(op x&&tk y)):=by
 intro x hx y hy
 simp[lastT,hx]
def TD (w:World)(its:List Wd.It)(e:Ending)(w':World):Prop:=e=.returned (.agg (tbA (bT its)))/\Below w.heap.size w w'
theorem EdM.fin {w W:World}{its:List Wd.It}(hf:bH its)(h:EdM w W (lastT (eT its its.length 0 0 0) (oT its its.length 0 0 0) (tT its its.length 0 0) 6 0) (oT its its.length 0 0 0) (tT its its.length 0 0)):EdM w W (bT its) (oT its its.length 0 0 0) (tT its its.length 0 0):=by
 refine h.congr (fun l hl m hm=>?_) (fun _ _=>rfl) (fun _ _=>rfl)
 rw[O6 _ _ _ l hl m hm]
 exact (open Classical in qw (O0 its hf l m)).symm
theorem DF (w:World)(its:List Wd.It)(ia da:Option Addr)(ic dc:Nat)(D:List Dk)(hD:jV w its (.slice ia its.length ic) (.slice da its.length dc) D) :
  Calls Tryz.prog 43 #[.slice ia its.length ic,.slice da its.length dc] w (TD w its):=by
 have HD:=hide hD
 have HF:=hide hD.fine
 have hl8:=hD.fine.len
 clear hD
 have HM0:Hid (EdM w ((((w.alloc (.cells (tbA (fun _ _=>false)) 72)).alloc (.cells (tbA (fun _ _=>false)) 72)).alloc (.cells #[.bool false,.bool false,.bool false,.bool false,.bool false,.bool false] 70)).alloc (.cells #[.bool false,.bool false,.bool false,.bool false,.bool false,.bool false] 70)) (eT its 0 0 0 0) (oT its 0 0 0 0) (tT its 0 0 0)):=by
  obtain ⟨a,b,c,d⟩:=Row.four w (tbA (fun _ _=>false)) (tbA (fun _ _=>false)) #[.bool false,.bool false,.bool false,.bool false,.bool false,.bool false] #[.bool false,.bool false,.bool false,.bool false,.bool false,.bool false] 72 72 70 70
  rw[Sg,Si,Sj]
  exact hide ⟨a,b,c,d,uV w _ _ _ _⟩
 go_enter Tryz.func43,Tryz.ntmps43
 go_wp2_with (refine xu rfl rfl ?_)
 generalize (((w.alloc (.cells (tbA (fun _ _=>false)) 72)).alloc (.cells (tbA (fun _ _=>false)) 72)).alloc (.cells #[.bool false,.bool false,.bool false,.bool false,.bool false,.bool false] 70)).alloc (.cells #[.bool false,.bool false,.bool false,.bool false,.bool false,.bool false] 70)=W at *
 go_loopw [8] (fun c wr=>∃i:Nat,i<=its.length/\c=.int .i64 i/\EdM w wr (eT its i 0 0 0) (oT its i 0 0 0) (tT its i 0 0)) (fun c _=>its.length-(intOf c).toNat)
 case atStart=>exact ⟨0,by omega,rfl,HM0.out⟩
 case round =>
  clear HM0
  obtain ⟨i,hi,rfl,hm⟩:=hrel
  have HM:=hide hm
  clear hm
  by_cases hit:i<its.length
  ·obtain ⟨gi,ci,gd,cd,d,hv1,hv2,hn1,jZ⟩:=HD.out.cells hit
   cases hv1
   cases hv2
   have HC:=hide jZ
   have HN1:=hide hn1
   have hbl:=HF.out.short i hit
   have hok:=hide (HF.out.gb hit).pair
   have hi0:(0:Int)<=(i:Int):=by omega
   have hbs:(Wd.mkS (ah its i)).size=(ah its i).length:=Wd.bN _
   have HLE:Hid (mX its i=(ah its i).length+1):=hide rfl
   have V6:gi<w.heap.size:=Sq (jZ w (Below.refl _ _)).1
   have V7:¬gi=w.heap.size+1:=by omega
   have V8:¬gi=w.heap.size+2:=by omega
   clear jZ hn1
   go_wp2
   go_loopw [9] (fun c wr=>∃p:Nat,p<=(ah its i).length+1/\c=.int .i64 p/\EdM w wr (eT its i p 0 0) (oT its i p 0 0) (tT its i p 0)) (fun c _=>(ah its i).length+1-(intOf c).toNat)
   case atStart=>exact ⟨0,by omega,rfl,HM.out⟩
   case round =>
    clear HM
    obtain ⟨p,hp,rfl,hm⟩:=hrel
    have HM:=hide hm
    clear hm
    obtain ⟨x0,x1,x2,x3⟩:=HC.out _ HM.out.b
    clear x3
    by_cases hpt:p<=(ah its i).length
    ·have hp0:(0:Int)<=(p:Int):=by omega
     have AA:=hide (fun W=>atD (ah its i) hbl p (by omega) W)
     have AN:=hide (fun hc W=>vZ (ah its i) hok.out hbl p (by omega) hc W)
     obtain ⟨pl,hpl⟩:∃pl,plD (ah its i) p=pl:=⟨_,rfl⟩
     obtain ⟨m0,hm0⟩:∃m0,mD (ah its i) p=m0:=⟨_,rfl⟩
     have HPL:=hide hpl
     have HM0:=hide hm0
     have hm6:m0<6:=by rw[<-hm0];unfold mD;split;(have:=jD hok.out (Or.inl (by assumption));omega);omega
     have hbd:=jG (ah its i) p
     have hpn:(p:Int)<(d.n1:Int):=by have:=HN1.out;omega
     have KEY:∀(w9:World),EdM w w9 (eT its i p 0 0) (oT its i p 0 0) (tT its i p 0)->True:=fun _ _=>trivial
     clear KEY
     by_cases h43:atB (ah its i) p=43
     ·have Ar:pl=true:=by rw[<-hpl];unfold plD;simp[h43]
      subst Ar
      have hnn:=jD hok.out (Or.inl h43)
      have Hf:num (ah its i) p=(m0:Int):=by rw[<-hm0];unfold mD;rw[if_pos h43];omega
      have AN':=hide (AN.out (Or.inl h43))
      rw[h43] at AA
      rw[Hf] at AN'
      clear hpl hm0 AN h43 hnn Hf hbd
      go_wp2_with (first|(go_at_call 68;refine (AA.out _).mono ?_;rintro e w' ⟨rfl,hww⟩;obtain rfl:=hww.symm;clear hww)|(go_at_call 69;refine (AN'.out _).mono ?_;rintro e w' ⟨rfl,hww⟩;obtain rfl:=hww.symm;clear hww))
      go_loopw [12] (fun c wr=>∃s:Nat,s<=128/\c=.int .i64 s/\EdM w wr (eT its i p s 0) (oT its i p s 0) (tT its i p s)) (fun c _=>128-(intOf c).toNat)
      case atStart=>exact ⟨0,by omega,rfl,HM.out⟩
      case round =>
       clear HM x0 x1 x2
       obtain ⟨s,hs,rfl,hm⟩:=hrel
       have HM:=hide hm
       clear hm
       by_cases hst:s<128
       ·obtain ⟨x0,x1,x2,x3'⟩:=HC.out _ HM.out.b
        obtain ⟨x3,x4'⟩:=x3' p hpt
        have x4:=x4' s hst
        clear x3' x4'
        have hs0:(0:Int)<=(s:Int):=by omega
        obtain ⟨o,ho⟩:∃o,di (isH its i) (ah its i) p s=o:=⟨_,rfl⟩
        rw[ho] at x4
        have HO:=hide ho
        clear ho
        obtain ⟨hd,hhd⟩:∃hd,isH its i=hd:=⟨_,rfl⟩
        rw[hhd] at x0
        have HHD:=hide hhd
        clear hhd
        cases o
        ·go_wp2
         go_round
         case measure=>simp[intOf];omega
         case rel=>exact ⟨s+1,by omega,by go_num,by rw[FZ its i p s HO.out,F3 its i p s HO.out,F4 its i p s HO.out];exact HM.out⟩
        ·obtain ⟨h,hh⟩:∃h,s / 2=h:=⟨_,rfl⟩
         have hq:(s:Int) / 2=(h:Int):=by omega
         have he:(s:Int)%2=0\/(s:Int)%2=1:=by omega
         have HH:=hide hh
         have sS:h<64:=by omega
         obtain ⟨hv,hhv⟩:∃hv,h.testBit m0=hv:=⟨_,rfl⟩
         have AH0:Hid (∀W,Calls Tryz.prog 70 #[.int .i64 (h:Int),.int .i64 (m0:Int)] W fun e w'=>e=.returned (.bool hv)/\w'=W):=hide (fun W=>by rw[<-hhv];exact mE h m0 W (by omega) (by omega))
         have HHV:=hide hhv
         clear hh hhv
         cases hv<;>(
          go_wp2_with (go_at_call 70;refine (AH0.out _).mono ?_;rintro e w' ⟨rfl,hww⟩;obtain rfl:=hww.symm;clear hww)
          go_loopw [14] (fun c wr=>∃l:Nat,l<=6/\c=.int .i64 l/\EdM w wr (eT its i p s l) (oT its i p s l) (tT its i p s)) (fun c _=>6-(intOf c).toNat)
          case atStart=>exact ⟨0,by omega,rfl,HM.out⟩
          case round =>
           clear HM x0 x1 x2 x3 x4
           obtain ⟨l,hl,rfl,hm⟩:=hrel
           have HM:=hide hm
           clear hm
           by_cases hlt:l<6
           ·obtain ⟨ob,hob⟩:∃ob,h.testBit l=ob:=⟨_,rfl⟩
            obtain ⟨q,hq'⟩:∃q,oT its i p s l l=q:=⟨_,rfl⟩
            have AHx:Hid (∀W,Calls Tryz.prog 70 #[.int .i64 (h:Int),.int .i64 (l:Int)] W fun e w'=>e=.returned (.bool ob)/\w'=W):=hide (fun W=>by rw[<-hob];exact mE h l W (by omega) (by omega))
            have c5:wr.cell? ⟨w.heap.size+2,l,none⟩=some (.bool q):=by rw[<-hq'];exact HM.out.op.cell l (gX _ _ _ hlt)
            have f5:=HM.out.op.frozen l
            have c6:wr.cell? ⟨w.heap.size+1,l*6+m0,none⟩=some (.bool (eT its i p s l l m0)):=HM.out.out.cell _ (jT _ _ _ hlt hm6)
            have f6:=HM.out.out.frozen (l*6+m0)
            have HOB:=hide hob
            have HQ:=hide hq'
            have x0:wr.cell? ⟨gi,i*2,none⟩=some (.bool hd):=by rw[<-HHD.out];exact (HC.out _ HM.out.b).1
            have hl0:(0:Int)<=(l:Int):=by omega
            clear hob hq'
            obtain ⟨e0,he0⟩:∃e0,decide (s%2=0)=e0:=⟨_,rfl⟩
            have HE0:=hide he0
            cases ob
            ·clear he he0
             cases q<;>(
              go_wp2_with (go_at_call 70;refine (AHx.out _).mono ?_;rintro e w' ⟨rfl,hww⟩;obtain rfl:=hww.symm;clear hww)
              go_round
              case measure=>simp[intOf];omega
              case rel =>
               first
               | exact ⟨l+1,by omega,by go_num,(HM.out.aA l _).congr (mg its i p s l hok.out (by rw[HH.out,HOB.out,HPL.out,HM0.out,HHV.out];rfl)) (fun x hx=>by rw[gu its i p s l HO.out x hx,HQ.out,HH.out,HOB.out,HHD.out,HE0.out];rfl) (fun _ _=>rfl)⟩
               | exact ⟨l+1,by omega,by go_num,((HM.out.fK l m0 hlt hm6 true).aA l _).congr (fun x hx y hy=>by have h9:=lX its i p s l hok.out HO.out (by rw[HH.out];exact HOB.out) HPL.out (by rw[HM0.out,HH.out];exact HHV.out) x hx y hy;rw[HM0.out] at h9;exact h9) (fun x hx=>by rw[gu its i p s l HO.out x hx,HQ.out,HH.out,HOB.out,HHD.out,HE0.out];rfl) (fun _ _=>rfl)⟩)
            ·cases q
             ·cases hd
              ·rcases he with he|he
               ·obtain rfl:true=e0:=by rw[<-he0];simp;omega
                clear he0
                skip;(
                 go_wp2_with (go_at_call 70;refine (AHx.out _).mono ?_;rintro e w' ⟨rfl,hww⟩;obtain rfl:=hww.symm;clear hww)
                 go_round
                 case measure=>simp[intOf];omega
                 case rel =>
                  first
                  | exact ⟨l+1,by omega,by go_num,(HM.out.aA l _).congr (mg its i p s l hok.out (by rw[HH.out,HOB.out,HPL.out,HM0.out,HHV.out];rfl)) (fun x hx=>by rw[gu its i p s l HO.out x hx,HQ.out,HH.out,HOB.out,HHD.out,HE0.out];rfl) (fun _ _=>rfl)⟩
                  | exact ⟨l+1,by omega,by go_num,((HM.out.fK l m0 hlt hm6 true).aA l _).congr (fun x hx y hy=>by have h9:=lX its i p s l hok.out HO.out (by rw[HH.out];exact HOB.out) HPL.out (by rw[HM0.out,HH.out];exact HHV.out) x hx y hy;rw[HM0.out] at h9;exact h9) (fun x hx=>by rw[gu its i p s l HO.out x hx,HQ.out,HH.out,HOB.out,HHD.out,HE0.out];rfl) (fun _ _=>rfl)⟩)
               ·obtain rfl:false=e0:=by rw[<-he0];simp;omega
                clear he0
                skip;(
                 go_wp2_with (go_at_call 70;refine (AHx.out _).mono ?_;rintro e w' ⟨rfl,hww⟩;obtain rfl:=hww.symm;clear hww)
                 go_round
                 case measure=>simp[intOf];omega
                 case rel =>
                  first
                  | exact ⟨l+1,by omega,by go_num,(HM.out.aA l _).congr (mg its i p s l hok.out (by rw[HH.out,HOB.out,HPL.out,HM0.out,HHV.out];rfl)) (fun x hx=>by rw[gu its i p s l HO.out x hx,HQ.out,HH.out,HOB.out,HHD.out,HE0.out];rfl) (fun _ _=>rfl)⟩
                  | exact ⟨l+1,by omega,by go_num,((HM.out.fK l m0 hlt hm6 true).aA l _).congr (fun x hx y hy=>by have h9:=lX its i p s l hok.out HO.out (by rw[HH.out];exact HOB.out) HPL.out (by rw[HM0.out,HH.out];exact HHV.out) x hx y hy;rw[HM0.out] at h9;exact h9) (fun x hx=>by rw[gu its i p s l HO.out x hx,HQ.out,HH.out,HOB.out,HHD.out,HE0.out];rfl) (fun _ _=>rfl)⟩)
              ·clear he he0
               skip;(
                go_wp2_with (go_at_call 70;refine (AHx.out _).mono ?_;rintro e w' ⟨rfl,hww⟩;obtain rfl:=hww.symm;clear hww)
                go_round
                case measure=>simp[intOf];omega
                case rel =>
                 first
                 | exact ⟨l+1,by omega,by go_num,(HM.out.aA l _).congr (mg its i p s l hok.out (by rw[HH.out,HOB.out,HPL.out,HM0.out,HHV.out];rfl)) (fun x hx=>by rw[gu its i p s l HO.out x hx,HQ.out,HH.out,HOB.out,HHD.out,HE0.out];rfl) (fun _ _=>rfl)⟩
                 | exact ⟨l+1,by omega,by go_num,((HM.out.fK l m0 hlt hm6 true).aA l _).congr (fun x hx y hy=>by have h9:=lX its i p s l hok.out HO.out (by rw[HH.out];exact HOB.out) HPL.out (by rw[HM0.out,HH.out];exact HHV.out) x hx y hy;rw[HM0.out] at h9;exact h9) (fun x hx=>by rw[gu its i p s l HO.out x hx,HQ.out,HH.out,HOB.out,HHD.out,HE0.out];rfl) (fun _ _=>rfl)⟩)
             ·clear he he0
              skip;(
               go_wp2_with (go_at_call 70;refine (AHx.out _).mono ?_;rintro e w' ⟨rfl,hww⟩;obtain rfl:=hww.symm;clear hww)
               go_round
               case measure=>simp[intOf];omega
               case rel =>
                first
                | exact ⟨l+1,by omega,by go_num,(HM.out.aA l _).congr (mg its i p s l hok.out (by rw[HH.out,HOB.out,HPL.out,HM0.out,HHV.out];rfl)) (fun x hx=>by rw[gu its i p s l HO.out x hx,HQ.out,HH.out,HOB.out,HHD.out,HE0.out];rfl) (fun _ _=>rfl)⟩
                | exact ⟨l+1,by omega,by go_num,((HM.out.fK l m0 hlt hm6 true).aA l _).congr (fun x hx y hy=>by have h9:=lX its i p s l hok.out HO.out (by rw[HH.out];exact HOB.out) HPL.out (by rw[HM0.out,HH.out];exact HHV.out) x hx y hy;rw[HM0.out] at h9;exact h9) (fun x hx=>by rw[gu its i p s l HO.out x hx,HQ.out,HH.out,HOB.out,HHD.out,HE0.out];rfl) (fun _ _=>rfl)⟩)
           ·have e:l=6:=by omega
            subst e
            have x0:wr.cell? ⟨gi,i*2,none⟩=some (.bool hd):=by rw[<-HHD.out];exact (HC.out _ HM.out.b).1
            have c7:wr.cell? ⟨w.heap.size+3,m0,none⟩=some (.bool (tT its i p s m0)):=HM.out.tk.cell _ (gX _ _ _ hm6)
            have f7:=HM.out.tk.frozen m0
            cases hd<;>(
             go_wp2
             go_round
             case measure=>simp[intOf];omega
             case rel =>
              first
              | exact ⟨s+1,by omega,by go_num,HM.out.congr (fun l hl m hm=>(wF its i p s l hl m hm).symm) (fun l hl=>(wG its i p s l hl).symm) (fun m hm=>by rw[wz its i p s hok.out HO.out m hm,HH.out,HPL.out,HM0.out,HHV.out,HHD.out];simp)⟩
              | exact ⟨s+1,by omega,by go_num,(HM.out.wV m0 true).congr (fun l hl m hm=>(wF its i p s l hl m hm).symm) (fun l hl=>(wG its i p s l hl).symm) (fun m hm=>by rw[wz its i p s hok.out HO.out m hm,HH.out,HPL.out,HM0.out,HHV.out,HHD.out];by_cases e:m=m0<;>simp[e])⟩))
       ·have e:s=128:=by omega
        subst e
        rw[<-G6,<-G7,<-G8] at HM
        go_wp2
        go_round
        case measure=>simp[intOf];omega
        case rel=>exact ⟨p+1,by omega,by go_num,HM.out⟩
     ·have Ar:pl=false:=by rw[<-hpl];unfold plD;simp[h43]
      subst Ar
      have UO:m0=0:=by rw[<-hm0];unfold mD;rw[if_neg h43]
      subst UO
      clear hpl hm0 AN
      generalize atB (ah its i) p=c at *
      have V9:(c==43)=false:=by simpa using h43
      go_wp2_with (first|(go_at_call 68;refine (AA.out _).mono ?_;rintro e w' ⟨rfl,hww⟩;obtain rfl:=hww.symm;clear hww))
      go_loopw [12] (fun c wr=>∃s:Nat,s<=128/\c=.int .i64 s/\EdM w wr (eT its i p s 0) (oT its i p s 0) (tT its i p s)) (fun c _=>128-(intOf c).toNat)
      case atStart=>exact ⟨0,by omega,rfl,HM.out⟩
      case round =>
       clear HM x0 x1 x2
       obtain ⟨s,hs,rfl,hm⟩:=hrel
       have HM:=hide hm
       clear hm
       by_cases hst:s<128
       ·obtain ⟨x0,x1,x2,x3'⟩:=HC.out _ HM.out.b
        obtain ⟨x3,x4'⟩:=x3' p hpt
        have x4:=x4' s hst
        clear x3' x4'
        have hs0:(0:Int)<=(s:Int):=by omega
        obtain ⟨o,ho⟩:∃o,di (isH its i) (ah its i) p s=o:=⟨_,rfl⟩
        rw[ho] at x4
        have HO:=hide ho
        clear ho
        obtain ⟨hd,hhd⟩:∃hd,isH its i=hd:=⟨_,rfl⟩
        rw[hhd] at x0
        have HHD:=hide hhd
        clear hhd
        cases o
        ·go_wp2
         go_round
         case measure=>simp[intOf];omega
         case rel=>exact ⟨s+1,by omega,by go_num,by rw[FZ its i p s HO.out,F3 its i p s HO.out,F4 its i p s HO.out];exact HM.out⟩
        ·obtain ⟨h,hh⟩:∃h,s / 2=h:=⟨_,rfl⟩
         have hq:(s:Int) / 2=(h:Int):=by omega
         have he:(s:Int)%2=0\/(s:Int)%2=1:=by omega
         have HH:=hide hh
         have sS:h<64:=by omega
         obtain ⟨hv,hhv⟩:∃hv,h.testBit 0=hv:=⟨_,rfl⟩
         have AH0:Hid (∀W,Calls Tryz.prog 70 #[.int .i64 (h:Int),.int .i64 0] W fun e w'=>e=.returned (.bool hv)/\w'=W):=hide (fun W=>by rw[<-hhv];exact mE h 0 W (by omega) (by omega))
         have HHV:=hide hhv
         clear hh hhv
         go_wp2_with (go_at_call 70;refine (AH0.out _).mono ?_;rintro e w' ⟨rfl,hww⟩;obtain rfl:=hww.symm;clear hww)
         go_loopw [14] (fun c wr=>∃l:Nat,l<=6/\c=.int .i64 l/\EdM w wr (eT its i p s l) (oT its i p s l) (tT its i p s)) (fun c _=>6-(intOf c).toNat)
         case atStart=>exact ⟨0,by omega,rfl,HM.out⟩
         case round =>
          clear HM x0 x1 x2 x3 x4
          obtain ⟨l,hl,rfl,hm⟩:=hrel
          have HM:=hide hm
          clear hm
          by_cases hlt:l<6
          ·obtain ⟨ob,hob⟩:∃ob,h.testBit l=ob:=⟨_,rfl⟩
           obtain ⟨q,hq'⟩:∃q,oT its i p s l l=q:=⟨_,rfl⟩
           have AHx:Hid (∀W,Calls Tryz.prog 70 #[.int .i64 (h:Int),.int .i64 (l:Int)] W fun e w'=>e=.returned (.bool ob)/\w'=W):=hide (fun W=>by rw[<-hob];exact mE h l W (by omega) (by omega))
           have c5:wr.cell? ⟨w.heap.size+2,l,none⟩=some (.bool q):=by rw[<-hq'];exact HM.out.op.cell l (gX _ _ _ hlt)
           have f5:=HM.out.op.frozen l
           have c6:wr.cell? ⟨w.heap.size+1,l*6+0,none⟩=some (.bool (eT its i p s l l 0)):=HM.out.out.cell _ (jT _ _ _ hlt hm6)
           have f6:=HM.out.out.frozen (l*6+0)
           have HOB:=hide hob
           have HQ:=hide hq'
           have x0:wr.cell? ⟨gi,i*2,none⟩=some (.bool hd):=by rw[<-HHD.out];exact (HC.out _ HM.out.b).1
           have hl0:(0:Int)<=(l:Int):=by omega
           clear hob hq'
           obtain ⟨e0,he0⟩:∃e0,decide (s%2=0)=e0:=⟨_,rfl⟩
           have HE0:=hide he0
           cases ob
           ·clear he he0
            cases q<;>(
             go_wp2_with (go_at_call 70;refine (AHx.out _).mono ?_;rintro e w' ⟨rfl,hww⟩;obtain rfl:=hww.symm;clear hww)
             go_round
             case measure=>simp[intOf];omega
             case rel =>
              first
              | exact ⟨l+1,by omega,by go_num,(HM.out.aA l _).congr (mg its i p s l hok.out (by rw[HH.out,HOB.out,HPL.out];simp)) (fun x hx=>by rw[gu its i p s l HO.out x hx,HQ.out,HH.out,HOB.out,HHD.out,HE0.out];rfl) (fun _ _=>rfl)⟩
              | exact ⟨l+1,by omega,by go_num,((HM.out.fK l 0 hlt hm6 true).aA l _).congr (fun x hx y hy=>by have h9:=lX its i p s l hok.out HO.out (by rw[HH.out];exact HOB.out) HPL.out (by rw[HM0.out,HH.out];exact HHV.out) x hx y hy;rw[HM0.out] at h9;exact h9) (fun x hx=>by rw[gu its i p s l HO.out x hx,HQ.out,HH.out,HOB.out,HHD.out,HE0.out];rfl) (fun _ _=>rfl)⟩)
           ·cases q
            ·cases hd
             ·rcases he with he|he
              ·obtain rfl:true=e0:=by rw[<-he0];simp;omega
               clear he0
               skip;(
                go_wp2_with (go_at_call 70;refine (AHx.out _).mono ?_;rintro e w' ⟨rfl,hww⟩;obtain rfl:=hww.symm;clear hww)
                go_round
                case measure=>simp[intOf];omega
                case rel =>
                 first
                 | exact ⟨l+1,by omega,by go_num,(HM.out.aA l _).congr (mg its i p s l hok.out (by rw[HH.out,HOB.out,HPL.out];simp)) (fun x hx=>by rw[gu its i p s l HO.out x hx,HQ.out,HH.out,HOB.out,HHD.out,HE0.out];rfl) (fun _ _=>rfl)⟩
                 | exact ⟨l+1,by omega,by go_num,((HM.out.fK l 0 hlt hm6 true).aA l _).congr (fun x hx y hy=>by have h9:=lX its i p s l hok.out HO.out (by rw[HH.out];exact HOB.out) HPL.out (by rw[HM0.out,HH.out];exact HHV.out) x hx y hy;rw[HM0.out] at h9;exact h9) (fun x hx=>by rw[gu its i p s l HO.out x hx,HQ.out,HH.out,HOB.out,HHD.out,HE0.out];rfl) (fun _ _=>rfl)⟩)
              ·obtain rfl:false=e0:=by rw[<-he0];simp;omega
               clear he0
               skip;(
                go_wp2_with (go_at_call 70;refine (AHx.out _).mono ?_;rintro e w' ⟨rfl,hww⟩;obtain rfl:=hww.symm;clear hww)
                go_round
                case measure=>simp[intOf];omega
                case rel =>
                 first
                 | exact ⟨l+1,by omega,by go_num,(HM.out.aA l _).congr (mg its i p s l hok.out (by rw[HH.out,HOB.out,HPL.out];simp)) (fun x hx=>by rw[gu its i p s l HO.out x hx,HQ.out,HH.out,HOB.out,HHD.out,HE0.out];rfl) (fun _ _=>rfl)⟩
                 | exact ⟨l+1,by omega,by go_num,((HM.out.fK l 0 hlt hm6 true).aA l _).congr (fun x hx y hy=>by have h9:=lX its i p s l hok.out HO.out (by rw[HH.out];exact HOB.out) HPL.out (by rw[HM0.out,HH.out];exact HHV.out) x hx y hy;rw[HM0.out] at h9;exact h9) (fun x hx=>by rw[gu its i p s l HO.out x hx,HQ.out,HH.out,HOB.out,HHD.out,HE0.out];rfl) (fun _ _=>rfl)⟩)
             ·clear he he0
              skip;(
               go_wp2_with (go_at_call 70;refine (AHx.out _).mono ?_;rintro e w' ⟨rfl,hww⟩;obtain rfl:=hww.symm;clear hww)
               go_round
               case measure=>simp[intOf];omega
               case rel =>
                first
                | exact ⟨l+1,by omega,by go_num,(HM.out.aA l _).congr (mg its i p s l hok.out (by rw[HH.out,HOB.out,HPL.out];simp)) (fun x hx=>by rw[gu its i p s l HO.out x hx,HQ.out,HH.out,HOB.out,HHD.out,HE0.out];rfl) (fun _ _=>rfl)⟩
                | exact ⟨l+1,by omega,by go_num,((HM.out.fK l 0 hlt hm6 true).aA l _).congr (fun x hx y hy=>by have h9:=lX its i p s l hok.out HO.out (by rw[HH.out];exact HOB.out) HPL.out (by rw[HM0.out,HH.out];exact HHV.out) x hx y hy;rw[HM0.out] at h9;exact h9) (fun x hx=>by rw[gu its i p s l HO.out x hx,HQ.out,HH.out,HOB.out,HHD.out,HE0.out];rfl) (fun _ _=>rfl)⟩)
            ·clear he he0
             skip;(
              go_wp2_with (go_at_call 70;refine (AHx.out _).mono ?_;rintro e w' ⟨rfl,hww⟩;obtain rfl:=hww.symm;clear hww)
              go_round
              case measure=>simp[intOf];omega
              case rel =>
               first
               | exact ⟨l+1,by omega,by go_num,(HM.out.aA l _).congr (mg its i p s l hok.out (by rw[HH.out,HOB.out,HPL.out];simp)) (fun x hx=>by rw[gu its i p s l HO.out x hx,HQ.out,HH.out,HOB.out,HHD.out,HE0.out];rfl) (fun _ _=>rfl)⟩
               | exact ⟨l+1,by omega,by go_num,((HM.out.fK l 0 hlt hm6 true).aA l _).congr (fun x hx y hy=>by have h9:=lX its i p s l hok.out HO.out (by rw[HH.out];exact HOB.out) HPL.out (by rw[HM0.out,HH.out];exact HHV.out) x hx y hy;rw[HM0.out] at h9;exact h9) (fun x hx=>by rw[gu its i p s l HO.out x hx,HQ.out,HH.out,HOB.out,HHD.out,HE0.out];rfl) (fun _ _=>rfl)⟩)
          ·have e:l=6:=by omega
           subst e
           have x0:wr.cell? ⟨gi,i*2,none⟩=some (.bool hd):=by rw[<-HHD.out];exact (HC.out _ HM.out.b).1
           have c7:wr.cell? ⟨w.heap.size+3,0,none⟩=some (.bool (tT its i p s 0)):=HM.out.tk.cell _ (gX _ _ _ hm6)
           have f7:=HM.out.tk.frozen 0
           cases hd<;>(
            go_wp2
            go_round
            case measure=>simp[intOf];omega
            case rel =>
             first
             | exact ⟨s+1,by omega,by go_num,HM.out.congr (fun l hl m hm=>(wF its i p s l hl m hm).symm) (fun l hl=>(wG its i p s l hl).symm) (fun m hm=>by rw[wz its i p s hok.out HO.out m hm,HPL.out];simp)⟩
             | exact ⟨s+1,by omega,by go_num,(HM.out.wV 0 true).congr (fun l hl m hm=>(wF its i p s l hl m hm).symm) (fun l hl=>(wG its i p s l hl).symm) (fun m hm=>by rw[wz its i p s hok.out HO.out m hm,HH.out,HPL.out,HM0.out,HHV.out,HHD.out];by_cases e:m=0<;>simp[e])⟩)
       ·have e:s=128:=by omega
        subst e
        rw[<-G6,<-G7,<-G8] at HM
        go_wp2
        go_round
        case measure=>simp[intOf];omega
        case rel=>exact ⟨p+1,by omega,by go_num,HM.out⟩
    ·have e:p=(ah its i).length+1:=by omega
     subst e
     rw[<-HLE.out,<-UK,<-UL,<-UM] at HM
     go_wp2
     go_round
     case measure=>simp[intOf];omega
     case rel=>exact ⟨i+1,by omega,by go_num,HM.out⟩
  ·have e:i=its.length:=by omega
   subst e
   go_wp2
   have Hg:Hid (EdM w wr (lastT (eT its its.length 0 0 0) (oT its its.length 0 0 0) (tT its its.length 0 0) 0 0) (oT its its.length 0 0 0) (tT its its.length 0 0)):=hide (HM.out.congr (fun l hl m hm=>by simp[lastT]) (fun _ _=>rfl) (fun _ _=>rfl))
   have UQ:Hid (∀W,EdM w W (lastT (eT its its.length 0 0 0) (oT its its.length 0 0 0) (tT its its.length 0 0) 6 0) (oT its its.length 0 0 0) (tT its its.length 0 0)->EdM w W (bT its) (oT its its.length 0 0 0) (tT its its.length 0 0)):=hide (fun W h=>h.fin HF.out)
   clear HM
   generalize eT its its.length 0 0 0=T at *
   generalize oT its its.length 0 0 0=op at *
   generalize tT its its.length 0 0=tk at *
   go_loopw [16] (fun c wr=>∃l:Nat,l<=6/\c=.int .i64 l/\EdM w wr (lastT T op tk l 0) op tk) (fun c _=>6-(intOf c).toNat)
   case atStart=>exact ⟨0,by omega,rfl,Hg.out⟩
   case round =>
    clear Hg
    obtain ⟨l,hl,rfl,hm⟩:=hrel
    have HM:=hide hm
    clear hm
    by_cases hlt:l<6
    ·have hl0:(0:Int)<=(l:Int):=by omega
     have hlI:(l:Int)<6:=by omega
     go_wp2
     go_loopw [17] (fun c wr=>∃m:Nat,m<=6/\c=.int .i64 m/\EdM w wr (lastT T op tk l m) op tk) (fun c _=>6-(intOf c).toNat)
     case atStart=>exact ⟨0,by omega,rfl,HM.out⟩
     case round =>
      clear HM
      obtain ⟨m,hm6,rfl,hm⟩:=hrel
      have HM:=hide hm
      clear hm
      by_cases hmt:m<6
      ·have hm0:(0:Int)<=(m:Int):=by omega
       have hmI:(m:Int)<6:=by omega
       have c1:wr.cell? ⟨w.heap.size+1,l*6+m,none⟩=some (.bool (lastT T op tk l m l m)):=HM.out.out.cell _ (jT _ _ _ hlt hmt)
       have f1:=HM.out.out.frozen (l*6+m)
       have c2:wr.cell? ⟨w.heap.size+2,l,none⟩=some (.bool (op l)):=HM.out.op.cell l (gX _ _ _ hlt)
       have c3:wr.cell? ⟨w.heap.size+3,m,none⟩=some (.bool (tk m)):=HM.out.tk.cell m (gX _ _ _ hmt)
       have hst:=hide (M7 T op tk l m)
       generalize lastT T op tk l m l m=o0 at *
       generalize op l=o1 at *
       generalize tk m=o2 at *
       cases o0<;>cases o1<;>cases o2<;>(
        go_wp2
        go_region
        go_wp2
        go_round
        case measure=>simp[intOf];omega
        case rel=>exact ⟨m+1,by omega,by go_num,((HM.out.fK l m hlt hmt _).congr (fun x hx y hy=>hst.out x hx y hy) (fun _ _=>rfl) (fun _ _=>rfl)).drew⟩)
      ·have e:m=6:=by omega
       subst e
       go_wp2
       go_round
       case measure=>simp[intOf];omega
       case rel=>exact ⟨l+1,by omega,by go_num,HM.out.congr (fun x hx y hy=>O5 T op tk l x hx y hy) (fun _ _=>rfl) (fun _ _=>rfl)⟩
    ·have e:l=6:=by omega
     subst e
     have HME:=hide (UQ.out _ HM.out)
     obtain ⟨F,hF⟩:∃F,bT its=F:=⟨_,rfl⟩
     have HFE:=hide hF
     rw[hF] at HME
     clear hF HM
     go_wp2_with (first|(refine wpList_load_row rfl 72 _ rfl _ rfl 72 (tbA F) (0,0) _ ?_ Tryz.underlying72 rfl (Tryz.iTbD _) ?_;(exact HME.out.out.raw))|(refine wpList_store_row rfl 72 _ _ rfl (w.heap.size) (tbA F) rfl rfl 72 (tbA (fun _ _=>false)) ?_ (Tryz.iTbD _) (by rw[fE,fE]) (kD _) ?_;(exact HME.out.res.raw)))
     exact bodyPost_ret (v:=.agg (tbA F)) (results_cell_row Tryz.results43 _ _ w.heap.size 72 _ (0,0) _ rfl (HME.out.res.setRow _).raw Tryz.underlying72 rfl (Tryz.iTbD _)) rfl ⟨by rw[HFE.out],below_setRow HME.out.b (by omega) _⟩
end
end Go.Proofs.YtecmfdkhcffpmaaGreat
