/- StG, StK, DocF. -/
import Derived.Test.YtecmfdkhcffpmaaGreatB37
import Derived.Test.YtecmfdkhcffpmaaGreatB40
import Derived.Test.YtecmfdkhcffpmaaGreatB36
namespace Go.Proofs.YtecmfdkhcffpmaaGreat
open Go.RowKit
set_option linter.unusedVariables false
set_option linter.unusedSimpArgs false
set_option linter.unusedSectionVars false
set_option maxHeartbeats 8000000
set_option maxRecDepth 100000
section
open Mc
theorem Sd (T:Tb)(w:World) :
  Calls Tryz.prog 100 #[.agg (tbA T)] w fun e w'=>e=.returned (.agg (tbA (fwK T 6)))/\Below w.heap.size w w':=by
 have ZA:=hide (Row.two w (tbA T) (tbA (fun _ _=>false)) 135 135)
 have ZB:=hide (og w (.cells (tbA T) 135) (.cells (tbA (fun _ _=>false)) 135))
 go_enter Tryz.func100,Tryz.ntmps100
 go_wp2_with (first|(refine uq rfl rfl ?_))
 generalize (w.alloc (.cells (tbA T) 135)).alloc (.cells (tbA (fun _ _=>false)) 135)=W at *
 go_loopw [6] (fun c wr=>∃k:Nat,k<=6/\c=.int .i64 k/\Row wr w.heap.size (tbA (fwK T k)) 135/\Row wr (w.heap.size+1) (tbA (fun _ _=>false)) 135/\Below w.heap.size w wr) (fun c _=>6-(intOf c).toNat)
 case atStart=>exact ⟨0,by omega,rfl,ZA.out.1,ZA.out.2,ZB.out⟩
 case round =>
  clear ZA ZB
  obtain ⟨k,hk,rfl,h1,h2,h3⟩:=hrel
  have H1:=hide h1
  have H2:=hide h2
  have H3:=hide h3
  clear h1 h2 h3
  by_cases hkt:k<6
  ·have hk0:(0:Int)<=(k:Int):=by omega
   go_wp2
   go_loopw [9] (fun c wr=>∃i:Nat,i<=6/\c=.int .i64 i/\Row wr w.heap.size (tbA (fwI (fwK T k) k i)) 135/\Row wr (w.heap.size+1) (tbA (fun _ _=>false)) 135/\Below w.heap.size w wr) (fun c _=>6-(intOf c).toNat)
   case atStart=>exact ⟨0,by omega,rfl,H1.out,H2.out,H3.out⟩
   case round =>
    clear H1 H2 H3
    obtain ⟨i,hi,rfl,h1,h2,h3⟩:=hrel
    have H1:=hide h1
    have H2:=hide h2
    have H3:=hide h3
    clear h1 h2 h3
    by_cases hit:i<6
    ·have hi0:(0:Int)<=(i:Int):=by omega
     go_wp2
     go_loopw [12] (fun c wr=>∃j:Nat,j<=6/\c=.int .i64 j/\Row wr w.heap.size (tbA (fwJ (fwI (fwK T k) k i) k i j)) 135/\Row wr (w.heap.size+1) (tbA (fun _ _=>false)) 135/\Below w.heap.size w wr) (fun c _=>6-(intOf c).toNat)
     case atStart=>exact ⟨0,by omega,rfl,H1.out,H2.out,H3.out⟩
     case round =>
      clear H1 H2 H3
      obtain ⟨j,hj,rfl,h1,h2,h3⟩:=hrel
      have H1:=hide h1
      have H2:=hide h2
      have H3:=hide h3
      clear h1 h2 h3
      by_cases hjt:j<6
      ·have c1:wr.cell? ⟨w.heap.size,i*6+k,none⟩=some (.bool (fwJ (fwI (fwK T k) k i) k i j i k)):=H1.out.cell _ (jT _ _ _ hit hkt)
       have c2:wr.cell? ⟨w.heap.size,k*6+j,none⟩=some (.bool (fwJ (fwI (fwK T k) k i) k i j k j)):=H1.out.cell _ (jT _ _ _ hkt hjt)
       have c3:wr.cell? ⟨w.heap.size,i*6+j,none⟩=some (.bool (fwJ (fwI (fwK T k) k i) k i j i j)):=H1.out.cell _ (jT _ _ _ hit hjt)
       have f3:=H1.out.frozen (i*6+j)
       have hj0:(0:Int)<=(j:Int):=by omega
       have hset:=hide (wm (fwJ (fwI (fwK T k) k i) k i j) i j hit hjt true)
       have dH:=hide (RX (fwI (fwK T k) k i) k i j)
       have hno:=hide (Tn (fwI (fwK T k) k i) k i j)
       generalize fwJ (fwI (fwK T k) k i) k i j i j=o0 at *
       generalize fwJ (fwI (fwK T k) k i) k i j i k=o1 at *
       generalize fwJ (fwI (fwK T k) k i) k i j k j=o2 at *
       cases o1<;>cases o2<;>(
        go_wp2
        go_round
        case measure=>simp[intOf];omega
        case rel =>
         first
         | exact ⟨j+1,by omega,by go_num,by rw[hno.out rfl];exact H1.out,H2.out,H3.out⟩
         | exact ⟨j+1,by omega,by go_num,by rw[dH.out rfl,<-hset.out];exact H1.out.set _ _,H2.out.aA (by omega) _ _,H3.out.setCell (Nat.le_refl _) _⟩)
      ·have e:j=6:=by omega
       subst e
       go_wp2
       go_round
       case measure=>simp[intOf];omega
       case rel=>exact ⟨i+1,by omega,by go_num,H1.out,H2.out,H3.out⟩
    ·have e:i=6:=by omega
     subst e
     go_wp2
     go_round
     case measure=>simp[intOf];omega
     case rel=>exact ⟨k+1,by omega,by go_num,H1.out,H2.out,H3.out⟩
  ·have e:k=6:=by omega
   subst e
   go_wp2_with (first|(refine wpList_load_row rfl 135 _ rfl _ rfl 135 (tbA (fwK T 6)) (0,0) _ ?_ Tryz.underlying135 rfl (Tryz.iTb _) ?_;(exact H1.out.raw))|(refine wpList_store_row rfl 135 _ _ rfl (w.heap.size+1) (tbA (fwK T 6)) rfl rfl 135 (tbA (fun _ _=>false)) ?_ (Tryz.iTb _) (by rw[fE,fE]) (kD _) ?_;(exact H2.out.raw)))
   exact bodyPost_ret (v:=.agg (tbA (fwK T 6))) (results_cell_row Tryz.results100 _ _ (w.heap.size+1) 135 _ (0,0) _ rfl (H2.out.setRow _).raw Tryz.underlying135 rfl (Tryz.iTb _)) rfl ⟨rfl,below_setRow H3.out (by omega) _⟩
end
section
open Mc
theorem Tryz.infoRep:(Tryz.prog.info? 23).map (fun i=>(i.zero,i.size,i.bytes))=some (some (.agg #[.int .i64 0,.int .i64 0,.int .i64 0]),3,24):=by kernel_rfl
def rpV (r:Rp):List Value:=[.int .i64 r.1,.int .i64 r.2.1,.int .i64 r.2.2]
theorem iY (r:Rp):(rpV r).length=3:=rfl
structure bD (w W:World)(v:Value)(L:List Rp):Prop where
 own:W.ownsRow w.heap.size 23 3 v L.length (L.flatMap rpV)
 b:Below w.heap.size w W
theorem vH (w:World)(base:Nat)(t:TypeId)(n:Nat)(hb:base<=w.heap.size):(w.alloc (.cells #[] t)).ownsRow base t n (.slice (some ⟨w.heap.size,0,none⟩) 0 0) 0 []:=⟨by simp,.inr ⟨w.heap.size,0,#[],rfl,hb,heap_alloc_last _ _,Nat.le_refl _,by decide,by simp,by simp⟩⟩
theorem bD.new (w:World):bD w (w.alloc (.cells #[] 23)) (.slice (some ⟨w.heap.size,0,none⟩) 0 0) []:=⟨vH w _ _ _ (Nat.le_refl _),aD _ _⟩
theorem bD.below {w W W':World}{v:Value}{L:List Rp}(h:bD w W v L)(hb:Below W.heap.size W W'):bD w W' v L:=⟨fO h.own (fun j _ hl=>hb.block j hl),ak h.b hb⟩
theorem bD.push {w W W':World}{v v':Value}{L:List Rp}{r:Rp}{o:Obj}(h:bD w W v L)(ho:W'.ownsRow w.heap.size 23 3 v' (L++[r]).length ((L++[r]).flatMap rpV))(hb:Below w.heap.size (W.alloc o) W'):bD w W' v' (L++[r]):=⟨ho,(h.b.alloc h.b.size o).trans hb⟩
theorem OX (w:World)(aao:Option Addr)(ac:Nat)(K:List Kn)(hK:lZ w (.slice aao K.length ac) K) :
  Calls Tryz.prog 75 #[.slice aao K.length ac] w fun e w'=>∃ao cc,e=.returned (.slice ao (dP (fwK (jh (K.map kp)) 6) 6).length cc)/\bD w w' (.slice ao (dP (fwK (jh (K.map kp)) 6) 6).length cc) (dP (fwK (jh (K.map kp)) 6) 6):=by
 have AE:=hide (C8 (w.alloc (.cells #[] 23)) aao ac K (hK.below (aD _ _)))
 clear hK
 have HR0:=hide (bD.new w)
 generalize jh (K.map kp)=T at *
 have AF:=hide (fun W=>Sd T W)
 generalize fwK T 6=F at *
 obtain ⟨i0,hj0,hz0,hz1,hz2⟩:=info_parts Tryz.infoRep
 go_enter Tryz.func75,Tryz.ntmps75
 go_wp2_with (first|(go_at_call 100;refine (AF.out _).mono ?_;rintro e w3 ⟨rfl,hb3⟩;have HR3:=hide (HR2.out.below hb3);clear hb3)|(refine wpList_load_row rfl 135 _ rfl _ rfl 135 (tbA T) (0,0) _ ?_ Tryz.underlying135 rfl (Tryz.iTb _) ?_;(exact HT2.out.raw))|(refine wpList_store_row rfl 135 _ _ rfl w1.heap.size (tbA T) rfl rfl 135 (tbA (fun _ _=>false)) ?_ (Tryz.iTb _) (by rw[fE,fE]) (kD _) ?_;(exact (Row.new w1 (tbA (fun _ _=>false)) 135).raw);rw[World.setRow_alloc_new];have HR2:=hide (HR1.out.below (aD w1 (.cells (tbA T) 135)));have HT2:=hide (Row.new w1 (tbA T) 135);generalize w1.alloc (.cells (tbA T) 135)=w2 at *)|(refine uq rfl rfl ?_)|(go_at_call 82;refine (AE.out).mono ?_;rintro e w1 ⟨rfl,hb1⟩;have HR1:=hide (HR0.out.below hb1);clear hb1))
 clear HR0 HR1 HR2 HT2 AE AF
 go_loopw [3,12] (fun a c wr=>∃l:Nat,l<=6/\c=.int .i64 l/\bD w wr a (dP F l)) (fun _ c _=>6-(intOf c).toNat)
 case atStart=>exact ⟨0,by omega,rfl,HR3.out⟩
 case round =>
  clear HR3
  obtain ⟨l,hl,rfl,hr⟩:=hrel
  have HR:=hide hr
  clear hr
  obtain ⟨ao,cc,hv⟩:=bq HR.out.own
  subst hv
  by_cases hlt:l<6
  ·have hix:=hide (Gj F l hlt)
   have hl0:(0:Int)<=(l:Int):=by omega
   have hlen:=qf F l
   have hsz:=HR.out.b.size
   have dH:=hide (Ej F l)
   have hno:=hide (EW F l)
   have HF:Hid (∀W,Row W wr.heap.size (bsA 6 (fun m=>F l m)) 70->W.cell? ⟨wr.heap.size,l,none⟩=some (.bool (F l l))):=hide (fun W h=>h.cell l (gX _ _ _ hlt))
   generalize F l l=o at *
   generalize (fun m=>F l m)=f at *
   cases o
   ·go_wp2_with (first|(refine wpList_store_row rfl 70 _ _ rfl wr.heap.size (bsA 6 f) rfl rfl 70 #[.bool false,.bool false,.bool false,.bool false,.bool false,.bool false] ?_ (Tryz.iSix _) rfl (iI _ _) ?_;(exact (Row.new wr #[.bool false,.bool false,.bool false,.bool false,.bool false,.bool false] 70).raw);rw[World.setRow_alloc_new];have HR1:=hide (HR.out.below (aD wr (.cells (bsA 6 f) 70)));have y1:=HF.out _ (Row.new wr (bsA 6 f) 70);have hs1:wr.heap.size<(wr.alloc (.cells (bsA 6 f) 70)).heap.size:=(Row.new wr (bsA 6 f) 70).lt;generalize wr.alloc (.cells (bsA 6 f) 70)=w1 at *)|(refine iT rfl _ _ _ rfl _ (hix.out _) ?_))
    go_round
    case measure=>simp[intOf];omega
    case rel=>exact ⟨l+1,by omega,by go_num,by rw[hno.out rfl];exact HR1.out⟩
   ·go_wp2_with (first|(at_builtin;refine gP (f:=rpV) iY rfl _ _ 40 rfl (w.heap.size) 23 i0 _ 24 Tryz.underlying40 hj0 hz0 hz1 hz2 rfl (by decide) _ (dP F l) (6,-1,((l:Nat):Int)) rfl ⟨_,0,none⟩ rfl ?_ ?_ ?_ ?_ ?_ ?_ ?_;(exact HR1.out.own.alloc _);(exact eZ _ _ _);(intro x hx;simp[rpV] at hx;rcases hx with rfl|rfl|rfl<;>rfl);(unfold maxLen;omega);(omega);(exact (by simp;omega));intro ao' cc' w2 hown' aT bn hat';have kU:=hide hown';have jX:=hide aT;clear hown' aT bn hat')|(refine wpList_store_row rfl 70 _ _ rfl wr.heap.size (bsA 6 f) rfl rfl 70 #[.bool false,.bool false,.bool false,.bool false,.bool false,.bool false] ?_ (Tryz.iSix _) rfl (iI _ _) ?_;(exact (Row.new wr #[.bool false,.bool false,.bool false,.bool false,.bool false,.bool false] 70).raw);rw[World.setRow_alloc_new];have HR1:=hide (HR.out.below (aD wr (.cells (bsA 6 f) 70)));have y1:=HF.out _ (Row.new wr (bsA 6 f) 70);have hs1:wr.heap.size<(wr.alloc (.cells (bsA 6 f) 70)).heap.size:=(Row.new wr (bsA 6 f) 70).lt;generalize wr.alloc (.cells (bsA 6 f) 70)=w1 at *)|(refine iT rfl _ _ _ rfl _ (hix.out _) ?_))
    go_round
    case measure=>simp[intOf];omega
    case rel=>exact ⟨l+1,by omega,by go_num,by rw[dH.out rfl];exact HR1.out.push kU.out jX.out⟩
  ·have e:l=6:=by omega
   subst e
   go_wp2
   go_ret
   exact ⟨ao,cc,rfl,HR.out⟩
end
section
open Mc
def jl (t:Int):Int:=if t=68 then 1 else if t=85 then 2 else if t=83 then 3 else if t=69 then 4 else if t=73 then 5 else if t=87 then 6 else if t=82 then 7 else 0
theorem KW {t:Int}(h1:t≠87)(h2:t≠82):jl t=jk t:=by unfold jl jk;simp[h1,h2]
theorem E9 (t:Int)(w:World)(ht0:0<=t)(ht:t<=255):Calls Tryz.prog 67 #[.int .u8 t] w fun e w'=>e=.returned (.int .i64 (jl t))/\w'=w:=by
 have HK:Hid (jl t=if t=68 then 1 else if t=85 then 2 else if t=83 then 3 else if t=69 then 4 else if t=73 then 5 else if t=87 then 6 else if t=82 then 7 else 0):=hide rfl
 generalize jl t=r at *
 go_enter Tryz.func67,Tryz.ntmps67
 go_wp2
 go_loop [4] (fun c=>∃i:Nat,i<=7/\c=.int .i64 i/\(0<i->t≠68)/\(1<i->t≠85)/\(2<i->t≠83)/\(3<i->t≠69)/\(4<i->t≠73)/\(5<i->t≠87)/\(6<i->t≠82)) (fun c=>7-(intOf c).toNat)
 case atStart=>exact ⟨0,by omega,rfl,fun h=>(by omega),fun h=>(by omega),fun h=>(by omega),fun h=>(by omega),fun h=>(by omega),fun h=>(by omega),fun h=>(by omega)⟩
 case round =>
  obtain ⟨i,hi,rfl,h0,h1,h2,h3,h4,h5,h6⟩:=hrel
  have hc:i=0\/i=1\/i=2\/i=3\/i=4\/i=5\/i=6\/i=7:=by omega
  have HN:=hide (And.intro h0 (And.intro h1 (And.intro h2 (And.intro h3 (And.intro h4 (And.intro h5 h6))))))
  clear h0 h1 h2 h3 h4 h5 h6
  rcases hc with rfl|rfl|rfl|rfl|rfl|rfl|rfl|rfl
  ·have hk:(((({data:=#[68,85,83,69,73,87,82]}:ByteArray)[0]'(by decide)).toNat:Nat):Int)=68:=rfl
   by_cases e:t=68
   ·subst e
    obtain ⟨h0,h1,h2,h3,h4,h5,h6⟩:=HN.out
    have HR:Hid (r=1):=hide (by rw[HK.out];rfl)
    clear HK HN h0 h1 h2 h3 h4 h5 h6
    go_wp2
    go_ret
    exact ⟨aO HR.out.symm,rfl⟩
   ·have HE:=hide e
    have e':((68:Int)==t)=false:=by simp;omega
    clear e
    go_wp2
    go_round
    case measure=>simp[intOf]
    case rel=>obtain ⟨h0,h1,h2,h3,h4,h5,h6⟩:=HN.out;exact ⟨1,by omega,by go_num,fun _=>HE.out,fun h=>(by omega),fun h=>(by omega),fun h=>(by omega),fun h=>(by omega),fun h=>(by omega),fun h=>(by omega)⟩
  ·have hk:(((({data:=#[68,85,83,69,73,87,82]}:ByteArray)[1]'(by decide)).toNat:Nat):Int)=85:=rfl
   by_cases e:t=85
   ·subst e
    obtain ⟨h0,h1,h2,h3,h4,h5,h6⟩:=HN.out
    have HR:Hid (r=2):=hide (by rw[HK.out];rfl)
    clear HK HN h0 h1 h2 h3 h4 h5 h6
    go_wp2
    go_ret
    exact ⟨aO HR.out.symm,rfl⟩
   ·have HE:=hide e
    have e':((85:Int)==t)=false:=by simp;omega
    clear e
    go_wp2
    go_round
    case measure=>simp[intOf]
    case rel=>obtain ⟨h0,h1,h2,h3,h4,h5,h6⟩:=HN.out;exact ⟨2,by omega,by go_num,fun _=>h0 (by omega),fun _=>HE.out,fun h=>(by omega),fun h=>(by omega),fun h=>(by omega),fun h=>(by omega),fun h=>(by omega)⟩
  ·have hk:(((({data:=#[68,85,83,69,73,87,82]}:ByteArray)[2]'(by decide)).toNat:Nat):Int)=83:=rfl
   by_cases e:t=83
   ·subst e
    obtain ⟨h0,h1,h2,h3,h4,h5,h6⟩:=HN.out
    have HR:Hid (r=3):=hide (by rw[HK.out];rfl)
    clear HK HN h0 h1 h2 h3 h4 h5 h6
    go_wp2
    go_ret
    exact ⟨aO HR.out.symm,rfl⟩
   ·have HE:=hide e
    have e':((83:Int)==t)=false:=by simp;omega
    clear e
    go_wp2
    go_round
    case measure=>simp[intOf]
    case rel=>obtain ⟨h0,h1,h2,h3,h4,h5,h6⟩:=HN.out;exact ⟨3,by omega,by go_num,fun _=>h0 (by omega),fun _=>h1 (by omega),fun _=>HE.out,fun h=>(by omega),fun h=>(by omega),fun h=>(by omega),fun h=>(by omega)⟩
  ·have hk:(((({data:=#[68,85,83,69,73,87,82]}:ByteArray)[3]'(by decide)).toNat:Nat):Int)=69:=rfl
   by_cases e:t=69
   ·subst e
    obtain ⟨h0,h1,h2,h3,h4,h5,h6⟩:=HN.out
    have HR:Hid (r=4):=hide (by rw[HK.out];rfl)
    clear HK HN h0 h1 h2 h3 h4 h5 h6
    go_wp2
    go_ret
    exact ⟨aO HR.out.symm,rfl⟩
   ·have HE:=hide e
    have e':((69:Int)==t)=false:=by simp;omega
    clear e
    go_wp2
    go_round
    case measure=>simp[intOf]
    case rel=>obtain ⟨h0,h1,h2,h3,h4,h5,h6⟩:=HN.out;exact ⟨4,by omega,by go_num,fun _=>h0 (by omega),fun _=>h1 (by omega),fun _=>h2 (by omega),fun _=>HE.out,fun h=>(by omega),fun h=>(by omega),fun h=>(by omega)⟩
  ·have hk:(((({data:=#[68,85,83,69,73,87,82]}:ByteArray)[4]'(by decide)).toNat:Nat):Int)=73:=rfl
   by_cases e:t=73
   ·subst e
    obtain ⟨h0,h1,h2,h3,h4,h5,h6⟩:=HN.out
    have HR:Hid (r=5):=hide (by rw[HK.out];rfl)
    clear HK HN h0 h1 h2 h3 h4 h5 h6
    go_wp2
    go_ret
    exact ⟨aO HR.out.symm,rfl⟩
   ·have HE:=hide e
    have e':((73:Int)==t)=false:=by simp;omega
    clear e
    go_wp2
    go_round
    case measure=>simp[intOf]
    case rel=>obtain ⟨h0,h1,h2,h3,h4,h5,h6⟩:=HN.out;exact ⟨5,by omega,by go_num,fun _=>h0 (by omega),fun _=>h1 (by omega),fun _=>h2 (by omega),fun _=>h3 (by omega),fun _=>HE.out,fun h=>(by omega),fun h=>(by omega)⟩
  ·have hk:(((({data:=#[68,85,83,69,73,87,82]}:ByteArray)[5]'(by decide)).toNat:Nat):Int)=87:=rfl
   by_cases e:t=87
   ·subst e
    obtain ⟨h0,h1,h2,h3,h4,h5,h6⟩:=HN.out
    have HR:Hid (r=6):=hide (by rw[HK.out];rfl)
    clear HK HN h0 h1 h2 h3 h4 h5 h6
    go_wp2
    go_ret
    exact ⟨aO HR.out.symm,rfl⟩
   ·have HE:=hide e
    have e':((87:Int)==t)=false:=by simp;omega
    clear e
    go_wp2
    go_round
    case measure=>simp[intOf]
    case rel=>obtain ⟨h0,h1,h2,h3,h4,h5,h6⟩:=HN.out;exact ⟨6,by omega,by go_num,fun _=>h0 (by omega),fun _=>h1 (by omega),fun _=>h2 (by omega),fun _=>h3 (by omega),fun _=>h4 (by omega),fun _=>HE.out,fun h=>(by omega)⟩
  ·have hk:(((({data:=#[68,85,83,69,73,87,82]}:ByteArray)[6]'(by decide)).toNat:Nat):Int)=82:=rfl
   by_cases e:t=82
   ·subst e
    obtain ⟨h0,h1,h2,h3,h4,h5,h6⟩:=HN.out
    have HR:Hid (r=7):=hide (by rw[HK.out];rfl)
    clear HK HN h0 h1 h2 h3 h4 h5 h6
    go_wp2
    go_ret
    exact ⟨aO HR.out.symm,rfl⟩
   ·have HE:=hide e
    have e':((82:Int)==t)=false:=by simp;omega
    clear e
    go_wp2
    go_round
    case measure=>simp[intOf]
    case rel=>obtain ⟨h0,h1,h2,h3,h4,h5,h6⟩:=HN.out;exact ⟨7,by omega,by go_num,fun _=>h0 (by omega),fun _=>h1 (by omega),fun _=>h2 (by omega),fun _=>h3 (by omega),fun _=>h4 (by omega),fun _=>h5 (by omega),fun _=>HE.out⟩
  ·obtain ⟨h0,h1,h2,h3,h4,h5,h6⟩:=HN.out
   have HR:Hid (r=0):=hide (by rw[HK.out,if_neg (h0 (by omega)),if_neg (h1 (by omega)),if_neg (h2 (by omega)),if_neg (h3 (by omega)),if_neg (h4 (by omega)),if_neg (h5 (by omega)),if_neg (h6 (by omega))])
   clear HK HN h0 h1 h2 h3 h4 h5 h6
   go_wp2
   go_ret
   exact ⟨aO HR.out.symm,rfl⟩
theorem bD.nil (w:World):bD w w (.slice none 0 0) []:=⟨World.ownsRow_nil _ _ _ _,Below.refl _ _⟩
theorem jV.cells {w:World}{its:List Wd.It}{iv dv:Value}{D:List Dk}(h:jV w its iv dv D){i:Nat}(hi:i<its.length):∃(gi ci gd cd:Nat) (d:Dk),iv=.slice (some ⟨gi,0,none⟩) its.length ci/\dv=.slice (some ⟨gd,0,none⟩) its.length cd/\d.n1=(ah its i).length+1/\∀W,Below w.heap.size w W->W.cell? ⟨gi,i*2,none⟩=some (.bool (isH its i))/\W.cell? ⟨gi,i*2+1,none⟩=some (.string (Wd.mkS (ah its i)))/\W.cell? ⟨gd,i,none⟩=some (.slice (some ⟨d.go,0,none⟩) d.n1 d.cap)/\(∀p,p<=(ah its i).length->W.cell? ⟨d.go,p,none⟩=some (.slice (some ⟨d.gs p,0,none⟩) 128 128)/\∀s,s<128->W.cell? ⟨d.gs p,s,none⟩=some (.bool (di (isH its i) (ah its i) p s))):=by
 have hiD:i<D.length:=by rw[h.len];exact hi
 obtain ⟨gi,ci,hv1,hg1,c0,c1⟩:=xO h.items hi
 obtain ⟨gd,cd,hv2,_,hg2,_,_,hr2⟩:=fI zx h.own (List.getElem?_eq_getElem hiD)
 have hdk:=h.each i _ (List.getElem?_eq_getElem hiD)
 have x2:w.cell? ⟨gd,i,none⟩=some (.slice (some ⟨D[i].go,0,none⟩) D[i].n1 D[i].cap):=by have:=hr2 0 _ rfl;simpa using this
 rw[h.len] at hv2
 refine ⟨gi,ci,gd,cd,D[i],hv1,hv2,hdk.n1,fun W hb=>⟨?_,?_,?_,fun p hp=>⟨?_,fun s hs=>?_⟩⟩⟩
 ·rw[hb.cell (by exact hg1)];exact c0
 ·rw[hb.cell (by exact hg1)];exact c1
 ·rw[hb.cell (by exact hg2)];exact x2
 ·rw[hb.cell (by exact hdk.dt.out.lt)];exact hdk.dt.out.cell p (by omega)
 ·rw[hb.cell (by exact (hdk.dt.inn p hp).lt)];exact (hdk.dt.inn p hp).cell s hs
noncomputable def l9 (hd:Bool)(b:List UInt8)(k p n:Nat):Bool:=(List.range n).any (fun s=>di hd b p s&&decide (jl (wrD hd b p s)=(k:Int)))
theorem MW (hd:Bool)(b:List UInt8)(k p n:Nat):l9 hd b k p (n+1)=(l9 hd b k p n||(di hd b p n&&decide (jl (wrD hd b p n)=(k:Int)))):=by simp[l9,List.range_succ]
theorem OY (hd:Bool)(b:List UInt8)(hg:GB b)(k p:Nat):l9 hd b k p 128=true↔oK hd b k p:=by
 have hkk:∀s,jl (wrD hd b p s)=kd hd b (eP p s):=fun s=>by
  unfold wrD kd
  have hv:=mZ hd b p (s / 2) (decide (s%2=1))
  rw[KW (by omega) (by omega)]
  rfl
 unfold l9
 rw[List.any_eq_true]
 constructor
 ·rintro ⟨s,hs,e⟩
  rw[Bool.and_eq_true,decide_eq_true_eq,lM,hkk] at e
  exact ⟨s / 2,decide (s%2=1),e.1.2,e.2⟩
 ·rintro ⟨h,off,hr,e⟩
  have hok:=hr.ok hg
  refine ⟨dn h off,List.mem_range.2 (mO _ hok.1),?_⟩
  rw[Bool.and_eq_true,decide_eq_true_eq,lM,hkk,nA]
  exact ⟨⟨mO _ hok.1,by rw[nA];exact hr⟩,e⟩
noncomputable def eU (its:List Wd.It)(k i p:Nat):Bool:=l9 (isH its i) (ah its i) k p 128
def dX (its:List Wd.It)(i:Nat):Nat:=(ah its i).length+1
theorem QV (w:World)(its:List Wd.It)(ia da:Option Addr)(ic dc:Nat)(D:List Dk)(k:Nat)(hk:k<=5)(hD:jV w its (.slice ia its.length ic) (.slice da its.length dc) D) :
  Calls Tryz.prog 42 #[.slice ia its.length ic,.slice da its.length dc,.int .i64 k] w fun e w'=>∃ao cc,e=.returned (.slice ao (dU (eU its) (dX its) k its.length).length cc)/\bD w w' (.slice ao (dU (eU its) (dX its) k its.length).length cc) (dU (eU its) (dX its) k its.length):=by
 have HD:=hide hD
 have HF:=hide hD.fine
 have hl8:=hD.fine.len
 clear hD
 have HR0:=hide (bD.nil w)
 have AW:=hide (fun i p s W (hi:i<its.length) (hp:p<=300) (hs:s<128)=>Em (isH its i) (ah its i) p s W (HF.out.short i hi) (by omega) hs (HF.out.gb hi).pair)
 have HLN:Hid (∀i,i<its.length->dX its i<=301):=hide (fun i hi=>by have:=HF.out.short i hi;unfold dX;omega)
 obtain ⟨i0,hj0,hz0,hz1,hz2⟩:=info_parts Tryz.infoRep
 go_enter Tryz.func42,Tryz.ntmps42
 go_wp2
 go_loopw [7,8] (fun a c wr=>∃i:Nat,i<=its.length/\c=.int .i64 i/\bD w wr a (dU (eU its) (dX its) k i)) (fun _ c _=>its.length-(intOf c).toNat)
 case atStart=>exact ⟨0,by omega,rfl,HR0.out⟩
 case round =>
  clear HR0
  obtain ⟨i,hi,rfl,hr⟩:=hrel
  have HR:=hide hr
  clear hr
  obtain ⟨ao,cc,hv⟩:=bq HR.out.own
  subst hv
  by_cases hit:i<its.length
  ·obtain ⟨gi,ci,gd,cd,d,hv1,hv2,hn1,jZ⟩:=HD.out.cells hit
   cases hv1
   cases hv2
   have HC:=hide jZ
   have HN1:=hide hn1
   have hbl:=HF.out.short i hit
   have hi0:(0:Int)<=(i:Int):=by omega
   have hbs:(Wd.mkS (ah its i)).size=(ah its i).length:=Wd.bN _
   have hlk:=ve (eU its) (dX its) k i (fun i' hi'=>HLN.out i' (by omega))
   have AWi:=hide (fun p s W hp hs=>AW.out i p s W hit hp hs)
   have HLD:Hid (dX its i=(ah its i).length+1):=hide rfl
   have HFD:Hid (∀p,eU its k i p=l9 (isH its i) (ah its i) k p 128):=hide (fun p=>rfl)
   have hlk2:(dU (eU its) (dX its) k i).length<=3000:=by have:i*301<=8*301:=Nat.mul_le_mul_right _ (by omega);omega
   clear jZ hn1 hlk
   generalize isH its i=hd at *
   generalize ah its i=b at *
   go_wp2
   go_loopw [7,9] (fun a c wr=>∃(p:Nat) (X:List Rp),p<=b.length+1/\c=.int .i64 p/\X=dU (eU its) (dX its) k i++gU (eU its k i) k i p/\bD w wr a X) (fun _ c _=>b.length+1-(intOf c).toNat)
   case atStart=>exact ⟨0,_,by omega,rfl,rfl,by rw[Ce,List.append_nil];exact HR.out⟩
   case round =>
    clear HR
    obtain ⟨p,X,hp,rfl,hX,hr⟩:=hrel
    have HR:=hide hr
    have HX:=hide hX
    clear hr hX
    obtain ⟨ao,cc,hv⟩:=bq HR.out.own
    subst hv
    obtain ⟨x0,x1,x2,x3⟩:=HC.out _ HR.out.b
    have HX3:=hide x3
    clear x3
    by_cases hpt:p<=b.length
    ·have hp0:(0:Int)<=(p:Int):=by omega
     have hsz:=HR.out.b.size
     have hXl:X.length<=10000:=by have h3:=xM (eU its k i) k i p;rw[HX.out,List.length_append];omega
     go_wp2
     have HB0:=hide HR.out.b
     generalize hw0:wr=w0 at *
     clear hw0
     go_loopw [10,11] (fun a c wr2=>∃s:Nat,s<=128/\c=.int .i64 s/\a=.bool (l9 hd b k p s)/\Below w0.heap.size w0 wr2) (fun _ c _=>128-(intOf c).toNat)
     case atStart=>exact ⟨0,by omega,rfl,rfl,Below.refl _ _⟩
     case round =>
      clear x0 x1 x2
      obtain ⟨s,hs,rfl,rfl,GZ⟩:=hrel
      have HB2:=hide GZ
      clear GZ
      by_cases hst:s<128
      ·obtain ⟨x0,x1,x2,x3'⟩:=HC.out _ (ak HB0.out HB2.out)
       obtain ⟨x3,x4'⟩:=x3' p hpt
       have x4:=x4' s hst
       clear x3' x4'
       have hs0:(0:Int)<=(s:Int):=by omega
       have hpn:(p:Int)<(d.n1:Int):=by have:=HN1.out;omega
       have HSU:=hide (MW hd b k p s)
       obtain ⟨v,hv⟩:∃v,wrD hd b p s=v:=⟨_,rfl⟩
       have AWs:=hide (fun W=>AWi.out p s W (by omega) hst)
       rw[hv] at AWs HSU
       have hvb:0<=v/\v<=255:=by have:=mZ hd b p (s / 2) (decide (s%2=1));unfold wrD at hv;omega
       have AKv:=hide (fun W=>E9 v W hvb.1 hvb.2)
       clear hv
       generalize jl v=kv at *
       generalize l9 hd b k p s=f at *
       generalize di hd b p s=o at *
       cases o
       ·go_wp2
        go_round
        case measure=>simp[intOf];omega
        case rel=>exact ⟨s+1,by omega,by go_num,by rw[HSU.out];simp,HB2.out⟩
       ·by_cases hkv:kv=(k:Int)
        ·subst hkv
         cases f<;>(
          go_wp2_with (first|(go_at_call 67;refine (AKv.out _).mono ?_;rintro e w' ⟨rfl,hww⟩;obtain rfl:=hww.symm;clear hww)|(go_at_call 66;refine (AWs.out _).mono ?_;rintro e w1 ⟨rfl,hb1⟩;have HB3:=hide (HB2.out.trans (hb1.mono HB2.out.size));clear hb1))
          go_round
          case measure=>simp[intOf];omega
          case rel=>exact ⟨s+1,by omega,by go_num,by rw[HSU.out];simp,HB3.out⟩)
        ·have HKN:=hide hkv
         have hkv':(kv==(k:Int))=false:=by simpa using hkv
         clear hkv
         cases f<;>(
          go_wp2_with (first|(go_at_call 67;refine (AKv.out _).mono ?_;rintro e w' ⟨rfl,hww⟩;obtain rfl:=hww.symm;clear hww)|(go_at_call 66;refine (AWs.out _).mono ?_;rintro e w1 ⟨rfl,hb1⟩;have HB3:=hide (HB2.out.trans (hb1.mono HB2.out.size));clear hb1))
          go_round
          case measure=>simp[intOf];omega
          case rel=>exact ⟨s+1,by omega,by go_num,by rw[HSU.out];simp[HKN.out],HB3.out⟩)
      ·have e:s=128:=by omega
       subst e
       have HR2:=hide (HR.out.below HB2.out)
       have hsz2:=HB2.out.size
       have dH:=hide (CU (eU its k i) k i p)
       have hno:=hide (Dz (eU its k i) k i p)
       rw[HFD.out] at dH hno
       generalize l9 hd b k p 128=f at *
       cases f
       ·go_wp2
        go_round
        case measure=>simp[intOf];omega
        case rel=>exact ⟨p+1,X,by omega,by go_num,by rw[hno.out (by first|rfl|trivial)];exact HX.out,HR2.out⟩
       ·go_wp2_with (first|(at_builtin;refine gP (f:=rpV) iY rfl _ _ 40 rfl (w.heap.size) 23 i0 _ 24 Tryz.underlying40 hj0 hz0 hz1 hz2 rfl (by decide) _ X ((k:Int),((i:Nat):Int),((p:Nat):Int)) rfl ⟨_,0,none⟩ rfl ?_ ?_ ?_ ?_ ?_ ?_ ?_;(exact HR2.out.own.alloc _);(exact eZ _ _ _);(intro x hx;simp[rpV] at hx;rcases hx with rfl|rfl|rfl<;>rfl);(unfold maxLen;omega);(omega);(exact (by simp;omega));intro ao' cc' w2 hown' aT bn hat';have kU:=hide hown';have jX:=hide aT;clear hown' aT bn hat'))
        go_round
        case measure=>simp[intOf];omega
        case rel=>exact ⟨p+1,_,by omega,by go_num,by rw[dH.out (by first|rfl|trivial),<-List.append_assoc,<-HX.out],HR2.out.push kU.out jX.out⟩
    ·have e:p=b.length+1:=by omega
     subst e
     rw[<-HLD.out] at HX
     rw[<-rA] at HX
     have hXe:=HX.out
     subst hXe
     go_wp2
     go_round
     case measure=>simp[intOf];omega
     case rel=>exact ⟨i+1,by omega,by go_num,HR.out⟩
  ·have e:i=its.length:=by omega
   subst e
   go_wp2
   go_ret
   exact ⟨ao,cc,rfl,HR.out⟩
end
end Go.Proofs.YtecmfdkhcffpmaaGreat
