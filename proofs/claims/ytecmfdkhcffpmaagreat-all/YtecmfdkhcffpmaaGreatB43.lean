/- DocK, DocG. -/
import Derived.Test.YtecmfdkhcffpmaaGreatB42
import Derived.Deep.RegionHeld3
import Derived.Test.YtecmfdkhcffpmaaGreatB41
import Derived.BigRegion
namespace Go.Proofs.YtecmfdkhcffpmaaGreat
open Go.RowKit
set_option linter.unusedVariables false
set_option linter.unusedSimpArgs false
set_option linter.unusedSectionVars false
set_option maxHeartbeats 8000000
set_option maxRecDepth 100000
section
open Mc
noncomputable def prD (its:List Wd.It)(c i j:Nat):Bool:=(!decide (i=j)||isH its i)&&j3 (j4 (isH its i) (ah its i) c true) (j4 (isH its j) (ah its j) c false) 64
noncomputable def mP (its:List Wd.It)(c i n:Nat):Bool:=(List.range n).any (fun j=>prD its c i j)
noncomputable def jC (its:List Wd.It)(c n:Nat):Bool:=(List.range n).any (fun i=>mP its c i its.length)
theorem M0 (its:List Wd.It)(c i n:Nat):mP its c i (n+1)=(mP its c i n||prD its c i n):=by simp[mP,List.range_succ]
theorem O4 (its:List Wd.It)(c n:Nat):jC its c (n+1)=(jC its c n||mP its c n its.length):=by simp[jC,List.range_succ]
theorem Fa (hd:Bool)(b:List UInt8)(c:Nat)(wt:Bool)(h:Nat):j4 hd b c wt h=true↔∃p,p<b.length/\mtD b c wt p=true/\∃s,s<128/\s / 2=h/\InD hd b p s:=by
 unfold j4 wT gN wA
 simp only[List.range_zero,List.any_nil,Bool.false_or,Bool.or_false,List.any_eq_true,List.mem_range,Bool.and_eq_true,decide_eq_true_eq,lM]
 constructor
 ·rintro ⟨p,hp,s,hs,⟨h1,h2⟩,h3⟩;exact ⟨p,hp,h1,s,hs,h2,h3⟩
 ·rintro ⟨p,hp,h1,s,hs,h2,h3⟩;exact ⟨p,hp,s,hs,⟨h1,h2⟩,h3⟩
theorem FC (b:List UInt8)(c:Nat)(wt:Bool)(p:Nat):mtD b c wt p=true↔AtC b c p/\(wt=true->atB b p=119):=by
 unfold mtD AtC
 have hnp:(atB b p=114\/atB b p=119)->aW b p=num b p:=fun h=>by unfold aW;rw[if_pos (by omega)]
 simp only[Bool.and_eq_true,Bool.or_eq_true,decide_eq_true_eq,Bool.not_eq_true']
 constructor
 ·rintro ⟨h1,h2⟩
  have hc:atB b p=114\/atB b p=119:=by rcases h1 with h | ⟨h,_⟩<;>omega
  refine ⟨⟨hc,by rw[hnp hc];exact h2⟩,fun hw=>?_⟩
  rcases h1 with h | ⟨_,h⟩
  ·exact h
  ·rw[hw] at h;cases h
 ·rintro ⟨⟨hc,hn⟩,hw⟩
  rw[hnp hc] at hn
  refine ⟨?_,hn⟩
  cases wt
  ·rcases hc with h|h
   ·exact Or.inr ⟨h,rfl⟩
   ·exact Or.inl h
  ·exact Or.inl (hw rfl)
theorem QX (fa fb:Nat->Bool):j3 fa fb 64=true↔∃x,x<64/\∃y,y<64/\fa x=true/\fb y=true/\x &&& y=0:=by
 unfold j3 nM
 simp only[List.any_eq_true,List.mem_range,Bool.and_eq_true,decide_eq_true_eq,and_assoc]
theorem FD (its:List Wd.It)(hf:bH its)(c i j:Nat)(hi:i<its.length)(hj:j<its.length):prD its c i j=true↔(i=j->isH its i=true)/\pz (isH its i) (ah its i) (isH its j) (ah its j) c:=by
 unfold prD
 rw[Bool.and_eq_true,QX]
 have hin:∀(k:Nat) (s:St3),k<its.length->Rch (isH its k) (ah its k) s->∀wt,AtC (ah its k) c s.1->(wt=true->atB (ah its k) s.1=119)->j4 (isH its k) (ah its k) c wt s.2.1=true/\s.2.1<64:=by
  intro k s hk hr wt hat hw
  have hok:=hr.ok (hf.gb hk)
  refine ⟨?_,hok.1⟩
  rw[Fa]
  have hlt:s.1<(ah its k).length:=kG (by rcases hat.1 with e|e<;>rw[e]<;>decide)
  refine ⟨s.1,hlt,(FC _ _ _ _).2 ⟨hat,hw⟩,dn s.2.1 s.2.2,mO _ hok.1,o9 _ _,mO _ hok.1,?_⟩
  have e:eP s.1 (dn s.2.1 s.2.2)=s:=nA _ _ _
  rw[e];exact hr
 refine and_congr ?_ ⟨?_,?_⟩
 ·simp only[Bool.or_eq_true,Bool.not_eq_true',decide_eq_false_iff_not]
  constructor
  ·rintro (h|h) e
   ·exact absurd e h
   ·exact h
  ·intro h
   by_cases e:i=j
   ·exact Or.inr (h e)
   ·exact Or.inl e
 ·rintro ⟨x,hx,y,hy,h1,h2,h3⟩
  rw[Fa] at h1 h2
  obtain ⟨p,hp,m1,s,hs,e1,r1⟩:=h1
  obtain ⟨q,hq,m2,t,ht,e2,r2⟩:=h2
  rw[FC] at m1 m2
  refine ⟨eP p s,eP q t,r1.2,r2.2,⟨m1.1,m1.2 rfl⟩,m2.1,?_⟩
  show s / 2 &&& t / 2=0
  rw[e1,e2];exact h3
 ·rintro ⟨s,t,hs,ht,h1,h2,h3⟩
  obtain ⟨a1,a2⟩:=hin i s hi hs true h1.1 (fun _=>h1.2)
  obtain ⟨b1,b2⟩:=hin j t hj ht false h2 (fun h=>by cases h)
  exact ⟨s.2.1,a2,t.2.1,b2,a1,b1,h3⟩
theorem QY (its:List Wd.It)(hf:bH its)(c:Nat):jC its c its.length=true↔Race its c:=by
 unfold jC mP Race
 simp only[List.any_eq_true,List.mem_range]
 constructor
 ·rintro ⟨i,hi,j,hj,h⟩
  obtain ⟨h1,h2⟩:=(FD its hf c i j hi hj).1 h
  exact ⟨i,j,hi,hj,h1,h2⟩
 ·rintro ⟨i,j,hi,hj,h1,h2⟩
  exact ⟨i,hi,j,hj,(FD its hf c i j hi hj).2 ⟨h1,h2⟩⟩
theorem yR (its:List Wd.It)(hf:bH its):eF (fun c=>jC its c its.length) 4=jW its:=by
 refine CS _ _ _ (fun c hc=>?_)
 exact (open Classical in qw (QY its hf c))
theorem jV.F6 {w:World}{its:List Wd.It}{iv dv:Value}{D:List Dk}(h:jV w its iv dv D){i:Nat}(hi:i<its.length):∃(gi ci gd cd:Nat) (d:Dk),iv=.slice (some ⟨gi,0,none⟩) its.length ci/\dv=.slice (some ⟨gd,0,none⟩) its.length cd/\∀W,Below w.heap.size w W->W.cell? ⟨gi,i*2,none⟩=some (.bool (isH its i))/\W.cell? ⟨gi,i*2+1,none⟩=some (.string (Wd.mkS (ah its i)))/\W.cell? ⟨gd,i,none⟩=some (.slice (some ⟨d.go,0,none⟩) d.n1 d.cap)/\∀c,c<4->∀wt,Calls Tryz.prog 71 #[.agg #[.bool (isH its i),.string (Wd.mkS (ah its i))],.slice (some ⟨d.go,0,none⟩) d.n1 d.cap,.int .i64 (c:Nat),.bool wt] W (F5 W (isH its i) (ah its i) c wt):=by
 have hiD:i<D.length:=by rw[h.len];exact hi
 obtain ⟨gi,ci,hv1,hg1,c0,c1⟩:=xO h.items hi
 obtain ⟨gd,cd,hv2,_,hg2,_,_,hr2⟩:=fI zx h.own (List.getElem?_eq_getElem hiD)
 have hdk:=h.each i _ (List.getElem?_eq_getElem hiD)
 have x2:w.cell? ⟨gd,i,none⟩=some (.slice (some ⟨D[i].go,0,none⟩) D[i].n1 D[i].cap):=by have:=hr2 0 _ rfl;simpa using this
 rw[h.len] at hv2
 refine ⟨gi,ci,gd,cd,D[i],hv1,hv2,fun W hb=>⟨?_,?_,?_,fun c hc wt=>?_⟩⟩
 ·rw[hb.cell (by exact hg1)];exact c0
 ·rw[hb.cell (by exact hg1)];exact c1
 ·rw[hb.cell (by exact hg2)];exact x2
 ·exact QW W _ _ _ _ _ D[i].gs c wt hc (h.fine.gb hi) hdk.n1 (hdk.dt.below hb)
theorem M4 (w:World)(its:List Wd.It)(ia da:Option Addr)(ic dc:Nat)(D:List Dk)(hD:jV w its (.slice ia its.length ic) (.slice da its.length dc) D) :
  Calls Tryz.prog 45 #[.slice ia its.length ic,.slice da its.length dc] w fun e w'=>∃ao cc,e=.returned (.slice ao (jW its).length cc)/\bD w w' (.slice ao (jW its).length cc) (jW its):=by
 have HD:=hide hD
 have HF:=hide hD.fine
 have hl8:=hD.fine.len
 have HRL:=hide (yR its hD.fine)
 clear hD
 have HR0:=hide (bD.nil w)
 obtain ⟨i0,hj0,hz0,hz1,hz2⟩:=info_parts Tryz.infoRep
 go_enter Tryz.func45,Tryz.ntmps45
 go_wp2
 go_loopw [5,6] (fun a x wr=>∃c:Nat,c<=4/\x=.int .i64 c/\bD w wr a (eF (fun c=>jC its c its.length) c)) (fun _ x _=>4-(intOf x).toNat)
 case atStart=>exact ⟨0,by omega,rfl,HR0.out⟩
 case round =>
  clear HR0
  obtain ⟨c,hc,rfl,hr⟩:=hrel
  have HR:=hide hr
  clear hr
  obtain ⟨ao,cc,hv⟩:=bq HR.out.own
  subst hv
  have hlen:=qg (fun c=>jC its c its.length) c
  by_cases hct:c<4
  ·have hc0:(0:Int)<=(c:Int):=by omega
   have hcI:(c:Int)<4:=by omega
   have dH:=hide (El (fun c=>jC its c its.length) c)
   have hno:=hide (EX (fun c=>jC its c its.length) c)
   generalize eF (fun c=>jC its c its.length) c=X at *
   have HBX:=hide HR.out.b
   go_wp2
   generalize hw0:wr=w0 at *
   clear hw0
   go_loopw [7,8] (fun a x wr=>∃i:Nat,i<=its.length/\x=.int .i64 i/\a=.bool (jC its c i)/\Below w0.heap.size w0 wr) (fun _ x _=>its.length-(intOf x).toNat)
   case atStart=>exact ⟨0,by omega,rfl,rfl,Below.refl _ _⟩
   case round =>
    obtain ⟨i,hi,rfl,rfl,hb0⟩:=hrel
    have HB:=hide hb0
    clear hb0
    have HBW:=hide (ak HBX.out HB.out)
    by_cases hit:i<its.length
    ·obtain ⟨gi,ci,gd,cd,d,hv1,hv2,jZ⟩:=HD.out.F6 hit
     cases hv1
     cases hv2
     have HC:=hide jZ
     have hi0:(0:Int)<=(i:Int):=by omega
     obtain ⟨x0,x1,x2,x3⟩:=HC.out _ HBW.out
     clear x3 jZ
     have AW1:=hide (fun W hb=>(HC.out W hb).2.2.2 c hct true)
     have AP:=hide (fun W ga gb fa fb ha hb=>O3 W ga gb fa fb ha hb)
     go_wp2
     go_region_held3 (fun W'=>W'.cell? ⟨gi,i*2,none⟩=some (.bool (isH its i))/\W'.cell? ⟨gi,i*2+1,none⟩=some (.string (Wd.mkS (ah its i)))/\W'.cell? ⟨gd,i,none⟩=some (.slice (some ⟨d.go,0,none⟩) d.n1 d.cap)) (go_keep) (first|(go_at_call 71;refine (AW1.out _ (by first|exact HBW.out|exact HBW.out.drew|exact HBW.out.drew.drew)).mono ?_;rintro e w2 ⟨ga,rfl,hga,hba,hb2⟩;have HBA:=hide hba;have HB2:=hide (show Below w0.heap.size w0 w2 from ak HB.out.drew hb2);have wX:=hide (show Below w.heap.size w w2 from ak HBW.out.drew hb2);obtain ⟨x0',x1',x2',_⟩:=HC.out _ wX.out;clear hba hb2))
     clear x0 x1 x2 x0' x1' x2'
     go_wp2
     obtain ⟨f0,hf0⟩:∃f0,jC its c i=f0:=⟨_,rfl⟩
     have HF0:=hide hf0
     rw[hf0]
     clear hf0
     go_loopw [7,10] (fun a x wr=>∃j:Nat,j<=its.length/\x=.int .i64 j/\a=.bool (f0||mP its c i j)/\Below w2.heap.size w2 wr) (fun _ x _=>its.length-(intOf x).toNat)
     case atStart=>exact ⟨0,by omega,rfl,by simp[mP],Below.refl _ _⟩
     case round =>
      obtain ⟨j,hj,rfl,rfl,hbj⟩:=hrel
      have HBI:=hide hbj
      clear hbj
      have HBJ:=hide (ak wX.out HBI.out)
      have HAJ:=hide (HBA.out.below HBI.out)
      by_cases hjt:j<its.length
      ·obtain ⟨gi',ci',gd',cd',d',hv1,hv2,jZ⟩:=HD.out.F6 hjt
       cases hv1
       cases hv2
       have HC':=hide jZ
       clear jZ
       obtain ⟨y0,y1,y2,y3⟩:=HC'.out _ HBJ.out
       have x0:=(HC.out _ HBJ.out).1
       clear y3
       have AW2:=hide (fun W hb=>(HC'.out W hb).2.2.2 c hct false)
       have hjI:(0:Int)<=(j:Int):=by omega
       have hrs:=hide (M0 its c i j)
       have hpr:Hid (prD its c i j=((!decide (i=j)||isH its i)&&j3 (j4 (isH its i) (ah its i) c true) (j4 (isH its j) (ah its j) c false) 64)):=hide rfl
       rw[hpr.out] at hrs
       generalize mP its c i j=f1 at *
       obtain ⟨rr,hrr⟩:∃rr,j3 (j4 (isH its i) (ah its i) c true) (j4 (isH its j) (ah its j) c false) 64=rr:=⟨_,rfl⟩
       have AP2:=hide (fun W gb ha hb=>AP.out W ga gb (j4 (isH its i) (ah its i) c true) (j4 (isH its j) (ah its j) c false) ha hb)
       rw[hrr] at AP2 hrs
       clear hrr hpr
       obtain ⟨hd,hhd⟩:∃hd,isH its i=hd:=⟨_,rfl⟩
       have HHD:=hide hhd
       by_cases hij:i=j
       ·subst hij
        rw[hhd] at x0 hrs
        clear hhd
        cases hd
        ·clear y0 y1 y2
         go_wp2
         go_round
         case measure=>simp[intOf];omega
         case rel=>exact ⟨i+1,by omega,by go_num,by rw[hrs.out];simp,HBI.out⟩
        ·have hne:(i==i)=true:=by simp
         clear x0
         have x0:wr.cell? ⟨gi,i*2,none⟩=some (.bool true):=by rw[<-HHD.out];exact (HC.out _ HBJ.out).1
         clear y0
         rw[HHD.out] at HC' AW2 AP2 HAJ
         have y0:=x0
         go_wp2
         go_region_held3 (fun W'=>W'.cell? ⟨gi,i*2,none⟩=some (.bool true)/\W'.cell? ⟨gi,i*2+1,none⟩=some (.string (Wd.mkS (ah its i)))/\W'.cell? ⟨gd,i,none⟩=some (.slice (some ⟨d'.go,0,none⟩) d'.n1 d'.cap)) (go_keep) (first|(go_at_call 71;refine (AW2.out _ (by first|exact HBJ.out|exact HBJ.out.drew|exact HBJ.out.drew.drew)).mono ?_;rintro e w4 ⟨gb,rfl,hgb,hbb,hb4⟩;have HBB:=hide hbb;have HB4:=hide (show Below w2.heap.size w2 w4 from ak HBI.out.drew hb4);have HA4:=hide (HAJ.out.below (ak (Below.refl _ _).drew hb4));obtain ⟨y0',y1',y2',_⟩:=HC'.out _ (ak wX.out HB4.out);clear hbb hb4))
         cases f0<;>cases f1<;>cases rr<;>(
          go_wp2_with (go_at_call 72;refine (AP2.out _ _ HA4.out HBB.out).mono ?_;rintro e w' ⟨rfl,hww⟩;obtain rfl:=hww.symm;clear hww)
          go_round
          case measure=>simp[intOf];omega
          case rel=>exact ⟨i+1,by omega,by go_num,by rw[hrs.out];simp,HB4.out⟩)
       ·have hij':((i:Int)==(j:Int))=false:=by simp;omega
        have HIJ:=hide hij
        clear hij hhd HHD
        go_wp2
        go_region_held3 (fun W'=>W'.cell? ⟨gi,j*2,none⟩=some (.bool (isH its j))/\W'.cell? ⟨gi,j*2+1,none⟩=some (.string (Wd.mkS (ah its j)))/\W'.cell? ⟨gd,j,none⟩=some (.slice (some ⟨d'.go,0,none⟩) d'.n1 d'.cap)) (go_keep) (first|(go_at_call 71;refine (AW2.out _ (by first|exact HBJ.out|exact HBJ.out.drew|exact HBJ.out.drew.drew)).mono ?_;rintro e w4 ⟨gb,rfl,hgb,hbb,hb4⟩;have HBB:=hide hbb;have HB4:=hide (show Below w2.heap.size w2 w4 from ak HBI.out.drew hb4);have HA4:=hide (HAJ.out.below (ak (Below.refl _ _).drew hb4));obtain ⟨y0',y1',y2',_⟩:=HC'.out _ (ak wX.out HB4.out);clear hbb hb4))
        cases f0<;>cases f1<;>cases rr<;>(
         go_wp2_with (go_at_call 72;refine (AP2.out _ _ HA4.out HBB.out).mono ?_;rintro e w' ⟨rfl,hww⟩;obtain rfl:=hww.symm;clear hww)
         go_round
         case measure=>simp[intOf];omega
         case rel=>exact ⟨j+1,by omega,by go_num,by rw[hrs.out];simp[HIJ.out],HB4.out⟩)
      ·have e:j=its.length:=by omega
       subst e
       go_wp2
       go_round
       case measure=>simp[intOf];omega
       case rel=>exact ⟨i+1,by omega,by go_num,by rw[O4,HF0.out],ak HB2.out (HBI.out.mono (Nat.le_refl _))⟩
    ·have e:i=its.length:=by omega
     subst e
     have HR2:=hide (HR.out.below HB.out)
     have hsz2:=HB.out.size
     have GI:=HR.out.b.size
     obtain ⟨f,hf⟩:∃f,jC its c its.length=f:=⟨_,rfl⟩
     rw[hf] at dH hno
     rw[hf]
     clear hf
     cases f
     ·go_wp2
      go_round
      case measure=>simp[intOf];omega
      case rel=>exact ⟨c+1,by omega,by go_num,by rw[hno.out (by first|rfl|trivial)];exact HR2.out⟩
     ·go_wp2_with (first|(at_builtin;refine gP (f:=rpV) iY rfl _ _ 40 rfl (w.heap.size) 23 i0 _ 24 Tryz.underlying40 hj0 hz0 hz1 hz2 rfl (by decide) _ X (7,-1,((c:Nat):Int)) rfl ⟨_,0,none⟩ rfl ?_ ?_ ?_ ?_ ?_ ?_ ?_;(exact HR2.out.own.alloc _);(exact eZ _ _ _);(intro x hx;simp[rpV] at hx;rcases hx with rfl|rfl|rfl<;>rfl);(unfold maxLen;omega);(omega);(exact (by simp;omega));intro ao' cc' w3 hown' aT bn hat';have UN:=hide hown';have T9:=hide aT;clear hown' aT bn hat'))
      go_round
      case measure=>simp[intOf];omega
      case rel=>exact ⟨c+1,by omega,by go_num,by rw[dH.out (by first|rfl|trivial)];exact HR2.out.push UN.out T9.out⟩
  ·have e:c=4:=by omega
   subst e
   rw[HRL.out] at HR
   go_wp2
   go_ret
   exact ⟨ao,cc,by rw[<-HRL.out];rfl,HR.out⟩
end
section
open Mc
theorem Row.drew {w:World}{g:Nat}{cs:Array Value}{t:TypeId}(h:Row w g cs t):Row w.drew g cs t:=h
theorem Sn (T:Tb)(k i j:Nat):fwJ T k i (j+1)=upT (fwJ T k i j) i j (fwJ T k i j i j||(fwJ T k i j i k&&fwJ T k i j k j)):=rfl
theorem M5 (T:Tb)(w:World) :
  Calls Tryz.prog 44 #[.agg (tbA T)] w fun e w'=>∃ao cc,e=.returned (.slice ao (dP (fwK T 6) 6).length cc)/\bD w w' (.slice ao (dP (fwK T 6) 6).length cc) (dP (fwK T 6) 6):=by
 have ZA:=hide (Row.new w (tbA T) 72)
 have ZB:=hide (aD w (.cells (tbA T) 72))
 obtain ⟨i0,hj0,hz0,hz1,hz2⟩:=info_parts Tryz.infoRep
 obtain ⟨F,hF⟩:∃F,fwK T 6=F:=⟨_,rfl⟩
 have HF:=hide hF
 rw[hF]
 clear hF
 go_enter Tryz.func44,Tryz.ntmps44
 go_wp2
 generalize w.alloc (.cells (tbA T) 72)=W at *
 go_loopw [3] (fun c wr=>∃k:Nat,k<=6/\c=.int .i64 k/\Row wr w.heap.size (tbA (fwK T k)) 72/\Below w.heap.size w wr) (fun c _=>6-(intOf c).toNat)
 case atStart=>exact ⟨0,by omega,rfl,ZA.out,ZB.out⟩
 case round =>
  clear ZA ZB
  obtain ⟨k,hk,rfl,h1,h3⟩:=hrel
  have H1:=hide h1
  have H3:=hide h3
  clear h1 h3
  by_cases hkt:k<6
  ·have hk0:(0:Int)<=(k:Int):=by omega
   have hkI:(k:Int)<6:=by omega
   go_wp2
   go_loopw [4] (fun c wr=>∃i:Nat,i<=6/\c=.int .i64 i/\Row wr w.heap.size (tbA (fwI (fwK T k) k i)) 72/\Below w.heap.size w wr) (fun c _=>6-(intOf c).toNat)
   case atStart=>exact ⟨0,by omega,rfl,H1.out,H3.out⟩
   case round =>
    clear H1 H3
    obtain ⟨i,hi,rfl,h1,h3⟩:=hrel
    have H1:=hide h1
    have H3:=hide h3
    clear h1 h3
    by_cases hit:i<6
    ·have hi0:(0:Int)<=(i:Int):=by omega
     have hiI:(i:Int)<6:=by omega
     go_wp2
     go_loopw [5] (fun c wr=>∃j:Nat,j<=6/\c=.int .i64 j/\Row wr w.heap.size (tbA (fwJ (fwI (fwK T k) k i) k i j)) 72/\Below w.heap.size w wr) (fun c _=>6-(intOf c).toNat)
     case atStart=>exact ⟨0,by omega,rfl,H1.out,H3.out⟩
     case round =>
      clear H1 H3
      obtain ⟨j,hj,rfl,h1,h3⟩:=hrel
      have H1:=hide h1
      have H3:=hide h3
      clear h1 h3
      by_cases hjt:j<6
      ·have c1:wr.cell? ⟨w.heap.size,i*6+k,none⟩=some (.bool (fwJ (fwI (fwK T k) k i) k i j i k)):=H1.out.cell _ (jT _ _ _ hit hkt)
       have c2:wr.cell? ⟨w.heap.size,k*6+j,none⟩=some (.bool (fwJ (fwI (fwK T k) k i) k i j k j)):=H1.out.cell _ (jT _ _ _ hkt hjt)
       have c3:wr.cell? ⟨w.heap.size,i*6+j,none⟩=some (.bool (fwJ (fwI (fwK T k) k i) k i j i j)):=H1.out.cell _ (jT _ _ _ hit hjt)
       have f3:=H1.out.frozen (i*6+j)
       have hj0:(0:Int)<=(j:Int):=by omega
       have hjI:(j:Int)<6:=by omega
       have hset:=hide (fun v=>wm (fwJ (fwI (fwK T k) k i) k i j) i j hit hjt v)
       have hup:=hide (Sn (fwI (fwK T k) k i) k i j)
       generalize fwJ (fwI (fwK T k) k i) k i j i j=o0 at *
       generalize fwJ (fwI (fwK T k) k i) k i j i k=o1 at *
       generalize fwJ (fwI (fwK T k) k i) k i j k j=o2 at *
       cases o0<;>cases o1<;>cases o2<;>(
        go_wp2
        go_region
        go_wp2
        go_round
        case measure=>simp[intOf];omega
        case rel=>exact ⟨j+1,by omega,by go_num,by rw[hup.out,<-hset.out];exact (H1.out.set _ _).drew,(H3.out.setCell (Nat.le_refl _) _).drew⟩)
      ·have e:j=6:=by omega
       subst e
       go_wp2
       go_round
       case measure=>simp[intOf];omega
       case rel=>exact ⟨i+1,by omega,by go_num,H1.out,H3.out⟩
    ·have e:i=6:=by omega
     subst e
     go_wp2
     go_round
     case measure=>simp[intOf];omega
     case rel=>exact ⟨k+1,by omega,by go_num,H1.out,H3.out⟩
  ·have e:k=6:=by omega
   subst e
   rw[HF.out] at H1
   have HR0:Hid (bD w wr (.slice none 0 0) []):=hide ⟨World.ownsRow_nil _ _ _ _,H3.out⟩
   go_wp2
   go_loopw [6,7] (fun a c wr=>∃l:Nat,l<=6/\c=.int .i64 l/\Row wr w.heap.size (tbA F) 72/\wr.ownsRow (w.heap.size+1) 23 3 a (dP F l).length ((dP F l).flatMap rpV)/\Below w.heap.size w wr) (fun _ c _=>6-(intOf c).toNat)
   case atStart=>exact ⟨0,by omega,rfl,H1.out,World.ownsRow_nil _ _ _ _,H3.out⟩
   case round =>
    clear H1 H3 HR0
    obtain ⟨l,hl,rfl,h1,h2,h3⟩:=hrel
    have H1:=hide h1
    have H2:=hide h2
    have H3:=hide h3
    clear h1 h2 h3
    obtain ⟨ao,cc,hv⟩:=bq H2.out
    subst hv
    have hlt1:=H1.out.lt
    by_cases hlt:l<6
    ·have c1:wr.cell? ⟨w.heap.size,l*6+l,none⟩=some (.bool (F l l)):=H1.out.cell _ (jT _ _ _ hlt hlt)
     have hl0:(0:Int)<=(l:Int):=by omega
     have hlen:=qf F l
     have dH:=hide (Ej F l)
     have hno:=hide (EW F l)
     generalize F l l=o at *
     cases o
     ·go_wp2
      go_round
      case measure=>simp[intOf];omega
      case rel=>exact ⟨l+1,by omega,by go_num,H1.out,by rw[hno.out (by first|rfl|trivial)];exact H2.out,H3.out⟩
     ·go_wp2_with (first|(at_builtin;refine gP (f:=rpV) iY rfl _ _ 40 rfl (w.heap.size+1) 23 i0 _ 24 Tryz.underlying40 hj0 hz0 hz1 hz2 rfl (by decide) _ (dP F l) (6,-1,((l:Nat):Int)) rfl ⟨_,0,none⟩ rfl ?_ ?_ ?_ ?_ ?_ ?_ ?_;(exact H2.out.alloc _);(exact eZ _ _ _);(intro x hx;simp[rpV] at hx;rcases hx with rfl|rfl|rfl<;>rfl);(unfold maxLen;omega);(omega);(exact (by simp;omega));intro ao' cc' w2 hown' aT bn hat';have kU:=hide hown';have jX:=hide aT;clear hown' aT bn hat'))
      go_round
      case measure=>simp[intOf];omega
      case rel=>exact ⟨l+1,by omega,by go_num,H1.out.same (by rw[jX.out.block _ (by omega),heap_alloc_old _ _ hlt1]),by rw[dH.out (by first|rfl|trivial)];exact kU.out,(H3.out.alloc (by omega) _).trans (jX.out.mono (by omega))⟩
    ·have e:l=6:=by omega
     subst e
     go_wp2
     go_ret
     exact ⟨ao,cc,rfl,iH H2.out (by omega),H3.out⟩
end
end Go.Proofs.YtecmfdkhcffpmaaGreat
