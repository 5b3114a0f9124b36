/- RefG, Pure4, RefH, RefI, Pure5. -/
import Derived.Test.YtecmfdkhcffpmaaGreatB02
import Derived.BigRegion
import Derived.Test.YtecmfdkhcffpmaaGreatB01
namespace Go.Proofs.YtecmfdkhcffpmaaGreat
open Go.RowKit
set_option linter.unusedVariables false
set_option linter.unusedSimpArgs false
set_option linter.unusedSectionVars false
set_option maxHeartbeats 8000000
set_option maxRecDepth 100000
theorem Tryz.i48:(Tryz.prog.info? 84).map (·.size)=some 64:=by kernel_rfl
theorem Ny (s:ByteArray)(w:World)(hs:s.size<=10000) :
  Calls Tryz.prog 58 #[.string s] w fun e w'=>e=.returned (.agg (Wd.dF (Wd.gT s.data.toList 8)))/\Below w.heap.size w w':=by
 go_enter Tryz.func58,Tryz.ntmps58
 go_wp2
 go_loopw [4] (fun a wr=>∃(f:Nat),f<=8/\a=.int .i64 f/\wr.heap[w.heap.size]?=some (.cells (Wd.dF (fun _=>false)) 84 (0,0))/\wr.heap[w.heap.size+1]?=some (.cells (Wd.dF (Wd.gT s.data.toList f)) 84 (0,0))/\Below w.heap.size w wr) (fun a _=>8-(intOf a).toNat)
 case atStart =>
  refine ⟨0,by omega,rfl,?_,?_,((Below.refl _ _).alloc (Nat.le_refl _) _).alloc (by simp) _⟩
  ·rw[heap_alloc2_old];rfl
  ·rw[heap_alloc2_new];rfl
 case round =>
  obtain ⟨f,hk,rfl,hA,hO,hbe⟩:=hrel
  have HA:=hide hA
  have HO:=hide hO
  have HB:=hide hbe
  clear hA hO hbe
  by_cases hlt:f<8
  ·cases hq:Wd.head s.data.toList (65+(f:Int)) with
   | none =>
    have Q:Hid (Wd.toInt (Wd.head s.data.toList (65+(f:Int)))=-1):=by rw[hq];rfl
    have Q2:Hid (∀g,Wd.calls s.data.toList f g=false):=by
     apply hide;intro g;simp[Wd.calls,hq]
    clear hq
    go_wp2_with (go_at_call 56;refine (mF _ _ _ (by omega) (by omega) (by omega)).mono ?_;rw[Q.out];rintro e w' ⟨rfl,rfl⟩)
    go_roundw
    case rel =>
     refine ⟨f+1,by omega,by go_num,HA.out,?_,HB.out⟩
     rw[HO.out]
     congr 2
     apply Wd.pW
     intro j hj
     by_cases e:j / 8=f
     ·simp[Wd.gT,e,Q2.out]
     ·by_cases e2:j / 8<f
      ·simp[Wd.gT,e2,show j / 8<f+1 by omega]
      ·simp[Wd.gT,e2,show ¬j / 8<f+1 by omega]
    case measure=>simp[intOf];omega
   | some i =>
    have Q:Hid (Wd.toInt (Wd.head s.data.toList (65+(f:Int)))=(i:Int)):=by rw[hq];rfl
    have Q2:Hid (∀g,Wd.calls s.data.toList f g=Wd.kz (Wd.body s.data.toList i) g):=by
     apply hide;intro g;simp[Wd.calls,hq]
    have hi:i+2<=s.size:=by have:=(Wd.yw hq).1;rw[Wd.aI] at this;omega
    clear hq
    go_wp2_with (go_at_call 56;refine (mF _ _ _ (by omega) (by omega) (by omega)).mono ?_;rw[Q.out];rintro e w' ⟨rfl,rfl⟩)
    refine (rJ s i _ (by omega) hi).mono ?_
    rintro e w1 ⟨t,rfl,ht,hts,rfl⟩
    have HT:=hide ht
    clear ht
    go_wp2_with fail
    go_loopw [7] (fun a wx=>∃(k:Nat),k<=t.size/\a=.int .i64 k/\wx.heap[w.heap.size]?=some (.cells (Wd.dF (fun _=>false)) 84 (0,0))/\wx.heap[w.heap.size+1]?=some (.cells (Wd.dF (Wd.lN s.data.toList t.data.toList f k)) 84 (0,0))/\Below w.heap.size w wx) (fun a _=>t.size-(intOf a).toNat)
    case atStart =>
     refine ⟨0,by omega,rfl,HA.out,?_,HB.out⟩
     rw[HO.out]
     congr 2
     apply Wd.pW
     intro j hj
     by_cases e:j / 8=f
     ·simp[Wd.lN,Wd.gT,e,Wd.kz]
     ·simp[Wd.lN,e]
    case round =>
     clear HA HO HB
     obtain ⟨k,hkk,rfl,hA,hO,hbe⟩:=hrel
     have HA:=hide hA
     have HO:=hide hO
     have HB:=hide hbe
     clear hA hO hbe
     by_cases hkl:k<t.size
     ·have b0:=Wd.iL t.data.toList k
      have b1:=Wd.iD t.data.toList k
      rw[<-Wd.dz t k hkl] at b0 b1
      cases hu:Wd.up ((t[k].toNat:Nat):Int)
      ·go_wp2_with (go_at_call 52;refine (bM _ _ b0 b1).mono ?_;rintro e w' ⟨rfl,rfl⟩)
       go_roundw
       case rel =>
        refine ⟨k+1,by omega,by go_num,HA.out,?_,HB.out⟩
        rw[HO.out]
        congr 2
        apply Wd.pW
        intro j hj
        by_cases e:j / 8=f
        ·simp[Wd.up] at hu
         simp only[Wd.lN,e,if_true,Wd.BK t k _ hkl]
         have:(((t[k].toNat:Nat):Int)==65+((j%8:Nat):Int))=false:=by
          rw[beq_eq_false_iff_ne];intro h;omega
         rw[this];simp
        ·simp[Wd.lN,e]
       case measure=>simp[intOf];omega
      ·have hu':=hu
       simp[Wd.up] at hu'
       have c1:=aj HO.out (Wd.rO _ (f*8+(t[k].toNat-65)) (by omega))
       have c2:=frozen_of_row _ (w.heap.size+1) (f*8+(t[k].toNat-65)) _ _ HO.out
       go_wp2_with (go_at_call 52;refine (bM _ _ b0 b1).mono ?_;rintro e w' ⟨rfl,rfl⟩)
       go_region
       go_wp2
       go_roundw
       case rel =>
        refine ⟨k+1,by omega,by go_num,?_,?_,?_⟩
        ·rw[heap_drew,heap_setCell_other _ _ _ _ (by simp)];exact HA.out
        ·rw[heap_drew,heap_setCell_same _ _ _ _ _ _ HO.out,Wd.DU _ _ _ (by omega)]
         congr 2
         apply Wd.pW
         intro j hj
         by_cases e:j / 8=f
         ·simp only[Wd.lN,e,if_true,Wd.BK t k _ hkl]
          by_cases e2:j=f*8+(t[k].toNat-65)
          ·have:(((t[k].toNat:Nat):Int)==65+((j%8:Nat):Int))=true:=by
            rw[beq_iff_eq];omega
           rw[this];simp[e2]
          ·have:(((t[k].toNat:Nat):Int)==65+((j%8:Nat):Int))=false:=by
            rw[beq_eq_false_iff_ne];intro h;omega
           rw[this];simp[e2]
         ·have e2:¬j=f*8+(t[k].toNat-65):=by omega
          simp[Wd.lN,e,e2]
        ·exact (HB.out.setCell (by simp) _).drew
       case measure=>simp[intOf];omega
     ·go_wp2
      refine ⟨⟨f+1,by omega,by go_num,HA.out,?_,HB.out⟩,by simp[intOf];omega⟩
      rw[HO.out]
      congr 2
      apply Wd.pW
      intro j hj
      have e0:t.data.toList.take k=Wd.body s.data.toList i:=by
       rw[<-HT.out,List.take_of_length_le (by rw[Wd.aI];omega)]
      by_cases e:j / 8=f
      ·simp[Wd.lN,Wd.gT,e,e0,Q2.out]
      ·by_cases e2:j / 8<f
       ·simp[Wd.lN,Wd.gT,e,e2,show j / 8<f+1 by omega]
       ·simp[Wd.lN,Wd.gT,e,e2,show ¬j / 8<f+1 by omega]
  ·go_wp2_with (first|(refine wpList_load_row rfl 84 _ rfl _ rfl 84 _ (0,0) _ HO.out Tryz.underlying84 rfl (by rw[Wd.nY];exact Tryz.i48) ?_)|(refine wpList_store_row rfl 84 _ _ rfl _ _ rfl rfl 84 _ HA.out (by rw[Wd.nY];exact Tryz.i48) (by rw[Wd.nY,Wd.nY]) (Wd.DV _) ?_))
   obtain rfl:f=8:=by omega
   exact bodyPost_ret (v:=.agg (Wd.dF (Wd.gT s.data.toList 8))) (results_cell_row Tryz.results58 _ _ w.heap.size 84 _ (0,0) _ rfl (setRow_heap _ _ _ _ _ _ HA.out) Tryz.underlying84 rfl (by rw[Wd.nY];exact Tryz.i48)) rfl ⟨rfl,below_setRow HB.out (Nat.le_refl _) _⟩
theorem Nz (s:ByteArray)(w:World)(hs:s.size<=10000) :
  Calls Tryz.prog 29 #[.string s] w fun e w'=>e=.returned (.bool (Wd.round s.data.toList))/\Below w.heap.size w w':=by
 go_enter Tryz.func29,Tryz.ntmps29
 go_wp2_with fail
 refine (Ny s _ hs).mono ?_
 rintro e w1 ⟨rfl,hb1⟩
 have HB1:=hide hb1
 clear hb1
 go_wp2_with (refine wpList_store_row rfl 84 _ _ rfl _ _ rfl rfl 84 _ (heap_alloc_last _ _) (by rw[Wd.nY];exact Tryz.i48) (by rw[Wd.nY];rfl) (Wd.DV _) ?_)
 rw[World.setRow_alloc_new]
 have a1:=heap_alloc_last w1 (.cells (Wd.dF (Wd.gT s.data.toList 8)) 84)
 have a2:Below w.heap.size w (w1.alloc (.cells (Wd.dF (Wd.gT s.data.toList 8)) 84)):=HB1.out.alloc HB1.out.size _
 have a3:w.heap.size<=w1.heap.size:=HB1.out.size
 generalize w1.alloc (.cells (Wd.dF (Wd.gT s.data.toList 8)) 84)=W at *
 generalize w1.heap.size=N at *
 generalize hBb:Wd.gT s.data.toList 8=b at *
 have HBb:=hide hBb
 clear hBb
 have hRd:Wd.round s.data.toList=(Wd.first (fun i=>Wd.eu b 8 (i*8+i)) 8).isSome:=by rw[<-HBb.out];rfl
 have HR:=hide hRd
 clear hRd HBb
 go_loopw [4] (fun a wr=>∃(k:Nat),k<=8/\a=.int .i64 k/\wr.heap[N]?=some (.cells (Wd.dF (Wd.eu b k)) 84 (0,0))/\Below w.heap.size w wr) (fun a _=>8-(intOf a).toNat)
 case atStart=>exact ⟨0,by omega,rfl,a1,a2⟩
 case round =>
  clear a1 a2
  obtain ⟨k,hk,rfl,hO,hbe⟩:=hrel
  have HO:=hide hO
  have HB:=hide hbe
  clear hO hbe
  by_cases hkl:k<8
  ·go_wp2_with fail
   go_loopw [5] (fun a wr=>∃(i:Nat),i<=8/\a=.int .i64 i/\wr.heap[N]?=some (.cells (Wd.dF (Wd.kI (Wd.eu b k) k i)) 84 (0,0))/\Below w.heap.size w wr) (fun a _=>8-(intOf a).toNat)
   case atStart=>exact ⟨0,by omega,rfl,HO.out,HB.out⟩
   case round =>
    clear HO HB
    obtain ⟨i,hi,rfl,hO,hbe⟩:=hrel
    have HO:=hide hO
    have HB:=hide hbe
    clear hO hbe
    by_cases hil:i<8
    ·go_wp2_with fail
     go_loopw [6] (fun a wr=>∃(j:Nat),j<=8/\a=.int .i64 j/\wr.heap[N]?=some (.cells (Wd.dF (Wd.lY (Wd.kI (Wd.eu b k) k i) k i j)) 84 (0,0))/\Below w.heap.size w wr) (fun a _=>8-(intOf a).toNat)
     case atStart=>exact ⟨0,by omega,rfl,HO.out,HB.out⟩
     case round =>
      clear HO HB
      obtain ⟨j,hj,rfl,hO,hbe⟩:=hrel
      by_cases hjl:j<8
      ·have HU:Hid (Wd.lY (Wd.kI (Wd.eu b k) k i) k i (j+1)=Wd.upd (Wd.lY (Wd.kI (Wd.eu b k) k i) k i j) k i j):=rfl
       generalize Wd.lY (Wd.kI (Wd.eu b k) k i) k i j=B at *
       have c1:=aj hO (Wd.rO B (i*8+j) (by omega))
       have c2:=aj hO (Wd.rO B (i*8+k) (by omega))
       have c3:=aj hO (Wd.rO B (k*8+j) (by omega))
       have c4:=frozen_of_row _ N (i*8+j) _ _ hO
       have HO:=hide hO
       have HB:=hide hbe
       clear hO hbe
       have key:∀v:Bool,v=(B (i*8+j)||(B (i*8+k)&&B (k*8+j)))->(Wd.dF B).setIfInBounds (i*8+j) (.bool v)=Wd.dF (Wd.upd B k i j):=by
        intro v hv
        rw[Wd.DU _ _ _ (by omega)]
        apply Wd.pW
        intro x hx
        by_cases e:x=i*8+j
        ·subst e;simp[Wd.upd,hv]
        ·simp[Wd.upd,e]
       have KEY:=hide key
       clear key
       cases h1:B (i*8+j)
       ·cases h2:B (i*8+k)
        ·rw[h1] at c1;rw[h2] at c2
         have H1:=hide h1
         have H2:=hide h2
         clear h1 h2 c3
         go_wp2_with fail
         go_region
         go_wp2
         go_roundw
         case rel=>exact ⟨j+1,by omega,by go_num,by rw[HU.out,heap_drew,heap_setCell_same _ _ _ _ _ _ HO.out,KEY.out _ (by simp[H1.out,H2.out])],(HB.out.setCell a3 _).drew⟩
         case measure=>simp[intOf];omega
        ·rw[h1] at c1;rw[h2] at c2
         have H1:=hide h1
         have H2:=hide h2
         clear h1 h2
         go_wp2_with fail
         go_region
         go_wp2
         go_roundw
         case rel=>exact ⟨j+1,by omega,by go_num,by rw[HU.out,heap_drew,heap_setCell_same _ _ _ _ _ _ HO.out,KEY.out _ (by simp[H1.out,H2.out])],(HB.out.setCell a3 _).drew⟩
         case measure=>simp[intOf];omega
       ·rw[h1] at c1
        have H1:=hide h1
        clear h1 c2 c3
        go_wp2_with fail
        go_region
        go_wp2
        go_roundw
        case rel=>exact ⟨j+1,by omega,by go_num,by rw[HU.out,heap_drew,heap_setCell_same _ _ _ _ _ _ HO.out,KEY.out _ (by simp[H1.out])],(HB.out.setCell a3 _).drew⟩
        case measure=>simp[intOf];omega
      ·go_wp2_with fail
       refine ⟨⟨i+1,by omega,by go_num,?_,hbe⟩,by simp[intOf];omega⟩
       obtain rfl:j=8:=by omega
       exact hO
    ·go_wp2_with fail
     refine ⟨⟨k+1,by omega,by go_num,?_,HB.out⟩,by simp[intOf];omega⟩
     obtain rfl:i=8:=by omega
     exact HO.out
  ·obtain rfl:k=8:=by omega
   go_wp2_with fail
   go_loop [7] (fun a=>∃(i:Nat),i<=8/\a=.int .i64 i/\∀x,x<i->Wd.eu b 8 (x*8+x)=false) (fun a=>8-(intOf a).toNat)
   case atStart=>exact ⟨0,by omega,rfl,fun x hx=>by omega⟩
   case round =>
    obtain ⟨i,hi,rfl,hno⟩:=hrel
    have HN:=hide hno
    clear hno
    by_cases hil:i<8
    ·have c1:=aj HO.out (Wd.rO _ (i*8+i) (by omega))
     cases h1:Wd.eu b 8 (i*8+i)
     ·rw[h1] at c1
      have H1:=hide h1
      clear h1
      go_wp2
      go_round
      case rel=>exact ⟨i+1,by omega,by go_num,fun x hx=>by
       by_cases e:x=i
       ·subst e;exact H1.out
       ·exact HN.out x (by omega)⟩
      case measure=>simp[intOf];omega
     ·rw[h1] at c1
      have H1:=hide h1
      clear h1
      go_wp2
      go_ret
      exact ⟨by rw[HR.out,Wd.jL hil H1.out HN.out];rfl,HB.out⟩
    ·go_wp2
     go_ret
     exact ⟨by rw[HR.out,Wd.lJ (fun x hx=>HN.out x (by omega))];rfl,HB.out⟩
namespace Wd
def kE (l:List UInt8)(i:Nat):Bool:=heads l i&&(at_ l i==116||at_ l i==104)
def gQ (l:List UInt8)(k:Nat):List Nat:=(List.range k).filter (kE l)
def starts (l:List UInt8):List Nat:=gQ l l.length
theorem xA {l:List UInt8}{k:Nat}(h:kE l k=true):gQ l (k+1)=gQ l k++[k]:=by
 simp[gQ,List.range_succ,List.filter_append,h]
theorem uF {l:List UInt8}{k:Nat}(h:kE l k=false):gQ l (k+1)=gQ l k:=by
 simp[gQ,List.range_succ,List.filter_append,h]
theorem uw (l:List UInt8)(k:Nat):(gQ l k).length<=k:=by
 have:=List.length_filter_le (kE l) (List.range k)
 simpa [gQ] using this
theorem C9 {l:List UInt8}{i:Nat}(h:i∈starts l):i+1<l.length:=by
 simp[starts,gQ,kE,heads] at h
 exact h.2.1.1
def qF (l:List Nat):List Value:=l.map fun (i:Nat)=>Value.int .i64 (i:Int)
def kQ (l:List UInt8):Option Nat:=first (fun k=>decide (300<size (body l ((starts l).getD k 0)) (aU l 8))) (starts l).length
def bX (l:List UInt8):Int×Int :=
 if 240<l.length then (1,0)
 else match place l with
  | some i=>(2,(i:Int))
  | none=>match fD l with
   | some i=>(3,(i:Int))
   | none=>if round l=true then (4,0) else match kQ l with
    | some i=>(5,(i:Int))
    | none=>(0,0)
theorem Ci {l:List UInt8}(h:240<l.length):bX l=(1,0):=by simp[bX,h]
theorem Cj {l:List UInt8}(h:¬240<l.length){i:Nat}(h1:place l=some i):bX l=(2,(i:Int)):=by simp only[bX,if_neg h,h1]
theorem Ck {l:List UInt8}(h:¬240<l.length){i:Nat}(h1:place l=none)(h2:fD l=some i):bX l=(3,(i:Int)):=by simp only[bX,if_neg h,h1,h2]
theorem BL {l:List UInt8}(h:¬240<l.length)(h1:place l=none)(h2:fD l=none)(h3:round l=true):bX l=(4,0):=by simp only[bX,if_neg h,h1,h2,if_pos h3]
theorem Da {l:List UInt8}(h:¬240<l.length)(h1:place l=none)(h2:fD l=none)(h3:round l=false){i:Nat}(h4:kQ l=some i):bX l=(5,(i:Int)):=by simp[bX,if_neg h,h1,h2,h3,h4]
theorem DW {l:List UInt8}(h:¬240<l.length)(h1:place l=none)(h2:fD l=none)(h3:round l=false)(h4:kQ l=none):bX l=(0,0):=by simp[bX,if_neg h,h1,h2,h3,h4]
end Wd
theorem Tryz.info3:(Tryz.prog.info? 3).map (fun i=>(i.zero,i.size,i.bytes))=some (some (.int .i64 0),1,8):=by kernel_rfl
theorem NA (s:ByteArray)(k:Nat)(h:k<s.size):Wd.kE s.data.toList k=(Wd.heads s.data.toList k&&((((s[k].toNat:Nat):Int)==116)||(((s[k].toNat:Nat):Int)==104))):=by
 rw[Wd.dz s k h];rfl
theorem Db (s:ByteArray)(w:World)(hs:s.size<=10000) :
  Calls Tryz.prog 31 #[.string s] w fun e w'=>∃v,e=.returned v/\w'.ownsRow w.heap.size 3 1 v (Wd.starts s.data.toList).length (Wd.qF (Wd.starts s.data.toList))/\Below w.heap.size w w':=by
 have HL:=hide (Wd.aI s)
 obtain ⟨i0,hi,hz0,hz1,hz2⟩:=info_parts Tryz.info3
 go_enter Tryz.func31,Tryz.ntmps31
 go_wp2
 go_loopw [3,4] (fun a b wr=>∃k:Nat,k<=s.size/\b=.int .i64 k/\wr.ownsRow w.heap.size 3 1 a (Wd.gQ s.data.toList k).length (Wd.qF (Wd.gQ s.data.toList k))/\Below w.heap.size w wr) (fun _ b _=>s.size-(intOf b).toNat)
 case atStart=>exact ⟨0,Nat.zero_le _,rfl,World.ownsRow_nil _ _ _ _,Below.refl _ _⟩
 case round =>
  obtain ⟨k,hk,rfl,hown,hbe⟩:=hrel
  by_cases hlt:k<s.size
  ·have HP:=hide (NA s k hlt)
   have hln:=Wd.uw s.data.toList k
   have HO:=hide hown
   have HB:=hide hbe
   clear hown hbe
   cases hh:Wd.heads s.data.toList k
   ·go_wp2_with (go_at_call 57;refine (j6 _ _ _ (by omega) (by omega)).mono ?_;rintro e w' ⟨rfl,rfl⟩)
    go_roundw
    case rel=>exact ⟨k+1,by omega,by go_num,by rw[Wd.uF (by rw[HP.out,hh];rfl)];exact HO.out,HB.out⟩
    case measure=>simp[intOf];omega
   ·cases ht:(((s[k].toNat:Nat):Int)==116)
    ·cases h4:(((s[k].toNat:Nat):Int)==104)
     ·go_wp2_with (go_at_call 57;refine (j6 _ _ _ (by omega) (by omega)).mono ?_;rintro e w' ⟨rfl,rfl⟩)
      go_roundw
      case rel=>exact ⟨k+1,by omega,by go_num,by rw[Wd.uF (by rw[HP.out,hh,ht,h4];rfl)];exact HO.out,HB.out⟩
      case measure=>simp[intOf];omega
     ·go_wp2_with (first|(go_at_call 57;refine (j6 _ _ _ (by omega) (by omega)).mono ?_;rintro e w' ⟨rfl,rfl⟩)|(at_builtin;refine wpList_append_own _ rfl _ _ 55 rfl w.heap.size 3 i0 (.int .i64 0) 1 8 Tryz.underlying55 hi hz0 hz1 hz2 rfl (by decide) _ _ _ rfl (HO.out.alloc _) ⟨_,0,none⟩ 1 1 [.int .i64 (k:Int)] rfl rfl (cell_one_new _ _ _) (fun x hx=>by simp at hx;subst hx;rfl) (by unfold maxLen;omega) (by omega) (by have:=HB.out.size;simp;omega) ?_;intro v' w3 hown' hgrow3 hnil3))
      refine ⟨⟨k+1,by omega,by go_num,?_,?_⟩,by simp[intOf];omega⟩
      ·rw[Wd.xA (by rw[HP.out,hh,ht,h4];rfl)]
       simpa [Wd.qF] using hown'
      ·exact (HB.out.alloc HB.out.size _).grown hgrow3 (by have:=HB.out.size;simp;omega) (fun b hb=>(HO.out.lt b hb).1)
    ·go_wp2_with (first|(go_at_call 57;refine (j6 _ _ _ (by omega) (by omega)).mono ?_;rintro e w' ⟨rfl,rfl⟩)|(at_builtin;refine wpList_append_own _ rfl _ _ 55 rfl w.heap.size 3 i0 (.int .i64 0) 1 8 Tryz.underlying55 hi hz0 hz1 hz2 rfl (by decide) _ _ _ rfl (HO.out.alloc _) ⟨_,0,none⟩ 1 1 [.int .i64 (k:Int)] rfl rfl (cell_one_new _ _ _) (fun x hx=>by simp at hx;subst hx;rfl) (by unfold maxLen;omega) (by omega) (by have:=HB.out.size;simp;omega) ?_;intro v' w3 hown' hgrow3 hnil3))
     refine ⟨⟨k+1,by omega,by go_num,?_,?_⟩,by simp[intOf];omega⟩
     ·rw[Wd.xA (by rw[HP.out,hh,ht];rfl)]
      simpa [Wd.qF] using hown'
     ·exact (HB.out.alloc HB.out.size _).grown hgrow3 (by have:=HB.out.size;simp;omega) (fun b hb=>(HO.out.lt b hb).1)
  ·go_wp2
   go_ret
   refine ⟨_,rfl,?_,hbe⟩
   obtain rfl:k=s.size:=by omega
   rw[Wd.starts,HL.out]
   exact hown
theorem rE {w:World}{base:Nat}{e:TypeId}{v:Value}{n:Nat}{xs:List Value}(h:w.ownsRow base e 1 v n xs) :
  ∃ao cap,v=.slice ao n cap/\n<=cap/\cap<=maxLen/\xs.length=n/\(∀j u,xs[j]?=some u->∃g,ao=some ⟨g,0,none⟩/\w.cell? ⟨g,j,none⟩=some u/\base<=g/\g<w.heap.size):=by
 obtain ⟨hl,h2⟩:=h
 rcases h2 with ⟨rfl,rfl⟩ | ⟨g,cap,cur,rfl,hg,hh,hn,hm,hs,ht⟩
 ·refine ⟨none,0,rfl,by omega,by unfold maxLen;omega,by simpa using hl,?_⟩
  intro j u hj
  have hx:xs=[]:=by simpa using hl
  subst hx
  simp at hj
 ·refine ⟨some ⟨g,0,none⟩,cap,rfl,hn,hm,by simpa using hl,?_⟩
  intro j u hj
  refine ⟨g,rfl,?_,hg,bB hh⟩
  rw[cell_of_row w g j cur e (0,0) hh]
  have hj':j<xs.length:=(List.getElem?_eq_some_iff.1 hj).1
  have hjn:j<n:=by
   have:xs.length=n:=by simpa using hl
   omega
  rw[<-ht] at hj
  simp[hjn] at hj
  exact hj
theorem uL (s:ByteArray)(w:World)(hs:s.size<=maxLen) :
  Calls Tryz.prog 12 #[.string s] w fun e w'=>e=.returned (.tuple #[.int .i64 (Wd.bX s.data.toList).1,.int .i64 (Wd.bX s.data.toList).2])/\Below w.heap.size w w':=by
 unfold maxLen at hs
 by_cases hbig:240<s.size
 ·have HC:=hide (Wd.Ci (l:=s.data.toList) (by rw[Wd.aI];exact hbig))
  go_enter Tryz.func12,Tryz.ntmps12
  go_wp2
  go_ret2
  exact ⟨by rw[HC.out];rfl,Below.refl _ _⟩
 ·have hl:¬240<s.data.toList.length:=by rw[Wd.aI];exact hbig
  have HL:=hide hl
  clear hl
  go_enter Tryz.func12,Tryz.ntmps12
  go_wp2_with fail
  refine (Nw s _ (by omega)).mono ?_
  cases hp:Wd.place s.data.toList with
  | some i =>
   rintro e w1 ⟨rfl,hb1⟩
   have HB1:=hide hb1
   have HC:=hide (Wd.Cj HL.out hp)
   clear hb1 hp
   simp only[Wd.toInt]
   go_wp2_with fail
   go_ret2
   exact ⟨by rw[HC.out];rfl,HB1.out⟩
  | none =>
   rintro e w1 ⟨rfl,hb1⟩
   have HB1:=hide hb1
   have HP1:=hide hp
   clear hb1 hp
   simp only[Wd.toInt]
   go_wp2_with fail
   refine (I9 s _ (by omega)).mono ?_
   cases hp:Wd.fD s.data.toList with
   | some i =>
    rintro e w2 ⟨rfl,rfl⟩
    have HC:=hide (Wd.Ck HL.out HP1.out hp)
    clear hp
    simp only[Wd.toInt]
    go_wp2_with fail
    go_ret2
    exact ⟨by rw[HC.out];rfl,HB1.out⟩
   | none =>
    rintro e w2 ⟨rfl,rfl⟩
    have HP2:=hide hp
    clear hp
    simp only[Wd.toInt]
    go_wp2_with fail
    refine (Nz s _ (by omega)).mono ?_
    cases hp:Wd.round s.data.toList with
    | true =>
     rintro e w3 ⟨rfl,hb3⟩
     have HB3:=hide hb3
     have HC:=hide (Wd.BL HL.out HP1.out HP2.out hp)
     clear hb3 hp
     go_wp2_with fail
     go_ret2
     exact ⟨by rw[HC.out];rfl,HB1.out.trans (HB3.out.mono HB1.out.size)⟩
    | false =>
     rintro e w3 ⟨rfl,hb3⟩
     have HB3:=hide (HB1.out.trans (hb3.mono HB1.out.size))
     have HP3:=hide hp
     clear hb3 HB1 hp
     go_wp2_with fail
     refine (DR s _ (by omega)).mono ?_
     rintro e w4 ⟨rfl,hb4⟩
     have HB4:=hide (HB3.out.trans (hb4.mono HB3.out.size))
     clear hb4 HB3
     go_wp2_with (refine wpList_store_row rfl 53 _ _ rfl _ _ rfl rfl 53 _ (heap_alloc_last _ _) Tryz.i33 rfl (Wd.rM _) ?_)
     rw[World.setRow_alloc_new]
     go_wp2_with fail
     have a1:=hide (heap_alloc_last w4 (.cells (Wd.bO (Wd.aU s.data.toList 8)) 53))
     have a2:Hid (Below w.heap.size w (w4.alloc (.cells (Wd.bO (Wd.aU s.data.toList 8)) 53))):=HB4.out.alloc HB4.out.size _
     generalize w4.alloc (.cells (Wd.bO (Wd.aU s.data.toList 8)) 53)=W at *
     generalize w4.heap.size=N at *
     clear HB4
     refine (Db s _ (by omega)).mono ?_
     rintro e w5 ⟨v,rfl,hown,hb5⟩
     obtain ⟨ao,cap,rfl,hnc,hcap,hlen,hcell⟩:=rE hown
     have A1:=hide (dw hb5 a1.out)
     have A2:=hide (a2.out.trans (hb5.mono a2.out.size))
     have HCL:=hide hcell
     have hln:=Wd.uw s.data.toList s.data.toList.length
     rw[show Wd.gQ s.data.toList s.data.toList.length=Wd.starts s.data.toList from rfl,Wd.aI] at hln
     have HBR:=hide (show Wd.kQ s.data.toList=Wd.first _ _ from rfl)
     unfold maxLen at hcap
     clear a1 a2 hown hb5 hcell hlen
     generalize hn:(Wd.starts s.data.toList).length=n at *
     have HN:=hide hn
     clear hn
     go_wp2_with fail
     go_loopw [8] (fun a wr=>∃k:Nat,k<=n/\a=.int .i64 k/\Below w5.heap.size w5 wr/\(∀j,j<k->decide (300<Wd.size (Wd.body s.data.toList ((Wd.starts s.data.toList).getD j 0)) (Wd.aU s.data.toList 8))=false)) (fun a _=>n-(intOf a).toNat)
     case atStart=>exact ⟨0,by omega,rfl,Below.refl _ _,fun j hj=>by omega⟩
     case round =>
      obtain ⟨k,hk,rfl,hbe,hno⟩:=hrel
      have HB:=hide hbe
      have HNO:=hide hno
      clear hbe hno
      by_cases hkl:k<n
      ·have hget:(Wd.starts s.data.toList)[k]?=some ((Wd.starts s.data.toList).getD k 0):=by
        rw[List.getD_eq_getElem?_getD,List.getElem?_eq_getElem (by rw[HN.out];exact hkl)];rfl
       obtain ⟨g,rfl,hc1,hg1,hg2⟩:=HCL.out k (.int .i64 (((Wd.starts s.data.toList).getD k 0:Nat):Int)) (by simp only[Wd.qF,List.getElem?_map,hget];rfl)
       have hst:(Wd.starts s.data.toList).getD k 0+2<=s.size:=by
        have:=Wd.C9 (List.mem_of_getElem? hget)
        rw[Wd.aI] at this;omega
       generalize hx:(Wd.starts s.data.toList).getD k 0=x at *
       have HX:=hide hx
       have c1:=(HB.out.cell (p:=⟨g,k,none⟩) hg2).trans hc1
       have HO:=hide (dw HB.out A1.out)
       clear hx hc1 hget
       go_wp2_with fail
       refine (rJ s x _ (by omega) hst).mono ?_
       rintro e w6 ⟨t,rfl,ht,hts,rfl⟩
       have HT:=hide ht
       clear ht
       go_wp2_with (refine wpList_load_row rfl 53 _ rfl _ rfl 53 _ (0,0) _ HO.out Tryz.underlying53 rfl Tryz.i33 ?_)
       refine (Ez t _ _ (by omega) (Wd.rD _ 8)).mono ?_
       rw[HT.out]
       rintro e w7 ⟨rfl,hb7⟩
       have HB7:=hide (HB.out.trans (hb7.mono HB.out.size))
       clear hb7 c1
       generalize hz:Wd.size (Wd.body s.data.toList x) (Wd.aU s.data.toList 8)=z
       have HZ:=hide hz
       clear hz
       by_cases hg:300<z
       ·go_wp2_with fail
        go_ret2
        refine ⟨?_,A2.out.trans (HB7.out.mono A2.out.size)⟩
        have hb:Wd.kQ s.data.toList=some k:=by
         rw[Wd.kQ]
         exact Wd.jL (by rw[HN.out];exact hkl) (by rw[HX.out,HZ.out];exact decide_eq_true hg) HNO.out
        rw[Wd.Da HL.out HP1.out HP2.out HP3.out hb];rfl
       ·go_wp2_with fail
        go_roundw
        case rel=>exact ⟨k+1,by omega,by go_num,HB7.out,fun j hj=>by
         by_cases e:j=k
         ·subst e;rw[HX.out,HZ.out];exact decide_eq_false (by omega)
         ·exact HNO.out j (by omega)⟩
        case measure=>simp[intOf];omega
      ·go_wp2_with fail
       go_ret2
       refine ⟨?_,A2.out.trans (HB.out.mono A2.out.size)⟩
       have hb:Wd.kQ s.data.toList=none:=by
        rw[Wd.kQ]
        exact Wd.lJ (fun j hj=>HNO.out j (by rw[HN.out] at hj;omega))
       rw[Wd.DW HL.out HP1.out HP2.out HP3.out hb];rfl
namespace Wd
def shut (o:List UInt8)(c:Int):Option (List UInt8):=if 0<o.length/\at_ o (o.length-1)=c then some (o.take (o.length-1)) else none
def aN (st:St)(c:Int):Option St :=
 if c=43\/c=45 then some ⟨3,st.op,st.items⟩
 else if c=114\/c=119 then some ⟨4,st.op,st.items⟩
 else if c=60\/c=62\/c=122 then some st
 else if c=40 then some ⟨st.want,st.op++[40],st.items⟩
 else if c=91 then some ⟨st.want,st.op++[91],st.items⟩
 else if c=124 then (match shut st.op 40 with|some o=>some ⟨st.want,o++[124],st.items⟩|none=>none)
 else if c=41 then (match shut st.op 124 with|some o=>some ⟨st.want,o,st.items⟩|none=>none)
 else if c=93 then (match shut st.op 91 with|some o=>some ⟨st.want,o,st.items⟩|none=>none)
 else if c=125 then (if st.op.length=0 then some ⟨0,st.op,st.items⟩ else none)
 else if up c=true then some st else none
def aR (st:St)(c:Int):Option St :=
 if st.want=0 then (if st.items<8/\(c=116\/c=104\/up c=true) then some ⟨1,st.op,st.items+1⟩ else none)
 else if st.want=1 then (if c=123 then some ⟨2,st.op,st.items⟩ else none)
 else if st.want=3 then (if lk c=true then some ⟨2,st.op,st.items⟩ else none)
 else if st.want=4 then (if cl c=true then some ⟨2,st.op,st.items⟩ else none)
 else aN st c
def iU:List UInt8->Nat->St->Option Nat
 | [],i,st=>if st.want≠0\/st.items=0 then some i else none
 | c::r,i,st=>match aR st (bt c) with
  | none=>some i
  | some st'=>iU r (i+1) st'
def fault (l:List UInt8):Option Nat:=iU l 0 ⟨0,[],0⟩
theorem Ig (s:ByteArray)(k:Nat)(st:St)(h:k<s.size):iU (s.data.toList.drop k) k st=match aR st ((s[k].toNat:Nat):Int) with|none=>some k|some st'=>iU (s.data.toList.drop (k+1)) (k+1) st':=by
 rw[drop_cons s k h];rfl
theorem Iz (s:ByteArray)(k:Nat)(st:St)(h:s.size<=k)(hk:k<=s.size):iU (s.data.toList.drop k) k st=if st.want≠0\/st.items=0 then some s.size else none:=by
 have e:k=s.size:=by omega
 rw[List.drop_of_length_le (by rw[aI];exact h),e];rfl
def aZ (l:List UInt8):List Value:=l.map fun c=>Value.int .u8 (bt c)
theorem Lj (l:List UInt8):(aZ l).length=l.length:=by simp[aZ]
theorem NC (l:List UInt8)(j:Nat)(h:j<l.length):(aZ l)[j]?=some (.int .u8 (at_ l j)):=by
 simp[aZ,at_,bt,h]
end Wd
end Go.Proofs.YtecmfdkhcffpmaaGreat
