/- PureD2, DocI, DocJ. -/
import Derived.Test.YtecmfdkhcffpmaaGreatB36
import Derived.Test.YtecmfdkhcffpmaaGreatB39
import Derived.Test.YtecmfdkhcffpmaaGreatB41
namespace Go.Proofs.YtecmfdkhcffpmaaGreat
open Go.RowKit
set_option linter.unusedVariables false
set_option linter.unusedSimpArgs false
set_option linter.unusedSectionVars false
set_option maxHeartbeats 8000000
set_option maxRecDepth 100000
section
open Mc
def gN (N:Nat->Nat)(f:Nat->Nat->Nat->Bool)(i p s:Nat):Bool:=(List.range i).any (fun i'=>(List.range (N i')).any (fun p'=>(List.range 128).any (fun s'=>f i' p' s')))||(List.range p).any (fun p'=>(List.range 128).any (fun s'=>f i p' s'))||(List.range s).any (fun s'=>f i p s')
theorem uW (N:Nat->Nat)(f:Nat->Nat->Nat->Bool):gN N f 0 0 0=false:=by simp[gN]
theorem ou (N:Nat->Nat)(f:Nat->Nat->Nat->Bool)(i p s:Nat):gN N f i p (s+1)=(gN N f i p s||f i p s):=by
 unfold gN
 rw[List.range_succ (n:=s),List.any_append]
 simp[Bool.or_assoc]
theorem wu (N:Nat->Nat)(f:Nat->Nat->Nat->Bool)(i p:Nat):gN N f i (p+1) 0=gN N f i p 128:=by
 unfold gN
 rw[List.range_succ (n:=p),List.any_append]
 simp[Bool.or_assoc]
theorem zA (N:Nat->Nat)(f:Nat->Nat->Nat->Bool)(i:Nat):gN N f (i+1) 0 0=gN N f i (N i) 0:=by
 unfold gN
 rw[List.range_succ (n:=i),List.any_append]
 simp[Bool.or_assoc]
theorem OZ (N:Nat->Nat)(f:Nat->Nat->Nat->Bool)(n:Nat):gN N f n 0 0=true↔∃i,i<n/\∃p,p<N i/\∃s,s<128/\f i p s=true:=by
 unfold gN
 simp[List.any_eq_true]
noncomputable def eA (its:List Wd.It)(l m i p s:Nat):Bool:=di (isH its i) (ah its i) p s&&(s / 2).testBit l&&(tkP (ah its i) p (s / 2)).testBit m
noncomputable def oA (its:List Wd.It)(l i p s:Nat):Bool:=di (isH its i) (ah its i) p s&&!isH its i&&decide (s%2=0)&&(s / 2).testBit l
noncomputable def tA (its:List Wd.It)(m i p s:Nat):Bool:=di (isH its i) (ah its i) p s&&isH its i&&(tkP (ah its i) p (s / 2)).testBit m
def mX (its:List Wd.It)(i:Nat):Nat:=(ah its i).length+1
noncomputable def eT (its:List Wd.It)(i p s L:Nat):Tb:=fun l m=>gN (mX its) (eA its l m) i p s||(decide (l<L)&&eA its l m i p s)
noncomputable def oT (its:List Wd.It)(i p s L:Nat):Nat->Bool:=fun l=>gN (mX its) (oA its l) i p s||(decide (l<L)&&oA its l i p s)
noncomputable def tT (its:List Wd.It)(i p s:Nat):Nat->Bool:=fun m=>gN (mX its) (tA its m) i p s
theorem Sg (its:List Wd.It):eT its 0 0 0 0=fun _ _=>false:=by funext l m;simp[eT,uW]
theorem Si (its:List Wd.It):oT its 0 0 0 0=fun _=>false:=by funext l;simp[oT,uW]
theorem Sj (its:List Wd.It):tT its 0 0 0=fun _=>false:=by funext l;simp[tT,uW]
theorem G6 (its:List Wd.It)(i p:Nat):eT its i (p+1) 0 0=eT its i p 128 0:=by funext l m;simp[eT,wu]
theorem G7 (its:List Wd.It)(i p:Nat):oT its i (p+1) 0 0=oT its i p 128 0:=by funext l;simp[oT,wu]
theorem G8 (its:List Wd.It)(i p:Nat):tT its i (p+1) 0=tT its i p 128:=by funext l;simp[tT,wu]
theorem UK (its:List Wd.It)(i:Nat):eT its (i+1) 0 0 0=eT its i (mX its i) 0 0:=by funext l m;simp[eT,zA]
theorem UL (its:List Wd.It)(i:Nat):oT its (i+1) 0 0 0=oT its i (mX its i) 0 0:=by funext l;simp[oT,zA]
theorem UM (its:List Wd.It)(i:Nat):tT its (i+1) 0 0=tT its i (mX its i) 0:=by funext l;simp[tT,zA]
theorem FZ (its:List Wd.It)(i p s:Nat)(h:di (isH its i) (ah its i) p s=false):eT its i p (s+1) 0=eT its i p s 0:=by funext l m;simp[eT,ou,eA,h]
theorem F3 (its:List Wd.It)(i p s:Nat)(h:di (isH its i) (ah its i) p s=false):oT its i p (s+1) 0=oT its i p s 0:=by funext l;simp[oT,ou,oA,h]
theorem F4 (its:List Wd.It)(i p s:Nat)(h:di (isH its i) (ah its i) p s=false):tT its i p (s+1)=tT its i p s:=by funext l;simp[tT,ou,tA,h]
theorem wF (its:List Wd.It)(i p s:Nat):∀l,l<6->∀m,m<6->eT its i p s 6 l m=eT its i p (s+1) 0 l m:=by intro l hl m hm;simp[eT,ou,hl]
theorem wG (its:List Wd.It)(i p s:Nat):∀l,l<6->oT its i p s 6 l=oT its i p (s+1) 0 l:=by intro l hl;simp[oT,ou,hl]
def plD (b:List UInt8)(p:Nat):Bool:=decide (atB b p=43)
def mD (b:List UInt8)(p:Nat):Nat:=if atB b p=43 then (num b p).toNat else 0
theorem zB {b:List UInt8}(hok:bG b)(p h y:Nat)(hy:y<6):(tkP b p h).testBit y=(plD b p&&!h.testBit (mD b p)&&decide (y=mD b p)):=by
 unfold tkP plD mD
 by_cases h43:atB b p=43
 ·have hn:=jD hok (Or.inl h43)
  have hnp:aW b p=num b p:=by unfold aW;rw[if_pos (Or.inl h43)]
  rw[ku hok (Or.inl h43),hnp]
  simp only[h43,true_and,decide_true,Bool.true_and,if_true]
  have hh:holds h (num b p).toNat=h.testBit (num b p).toNat:=rfl
  rw[hh]
  generalize (num b p).toNat=l at *
  cases hq:h.testBit l
  ·simp only[if_true,Bool.not_false,Bool.true_and]
   rw[Nat.testBit_two_pow]
   by_cases e:l=y
   ·simp[e]
   ·simp[e];omega
  ·simp
 ·simp[h43]
theorem mg (its:List Wd.It)(i p s L:Nat)(hok:bG (ah its i))(h:((s / 2).testBit L&&plD (ah its i) p&&!(s / 2).testBit (mD (ah its i) p))=false):∀l,l<6->∀m,m<6->eT its i p s (L+1) l m=eT its i p s L l m:=by
 intro l hl m hm
 unfold eT eA
 rw[zB hok p (s / 2) m hm]
 by_cases e:l=L
 ·subst e
  have h2:((s / 2).testBit l&&(plD (ah its i) p&&!(s / 2).testBit (mD (ah its i) p)&&decide (m=mD (ah its i) p)))=false:=by
   cases h3:(s / 2).testBit l
   ·simp
   ·rw[h3,Bool.true_and] at h
    rw[h];simp
  simp only[Bool.and_assoc] at h2 ⊢
  rw[h2];simp
 ·have:decide (l<L+1)=decide (l<L):=by simp;omega
  rw[this]
theorem lX (its:List Wd.It)(i p s L:Nat)(hok:bG (ah its i))(hin:di (isH its i) (ah its i) p s=true)(h1:(s / 2).testBit L=true)(h2:plD (ah its i) p=true)(h3:(s / 2).testBit (mD (ah its i) p)=false):∀l,l<6->∀m,m<6->eT its i p s (L+1) l m=upT (eT its i p s L) L (mD (ah its i) p) true l m:=by
 intro l hl m hm
 unfold upT eT eA
 rw[zB hok p (s / 2) m hm]
 by_cases e:l=L/\m=mD (ah its i) p
 ·rw[if_pos e,e.1,e.2];simp[hin,h1,h2,h3]
 ·rw[if_neg e]
  by_cases e1:l=L
  ·subst e1
   have:m≠mD (ah its i) p:=fun e2=>e ⟨rfl,e2⟩
   simp[this]
  ·have:decide (l<L+1)=decide (l<L):=by simp;omega
   rw[this]
theorem gu (its:List Wd.It)(i p s L:Nat)(hin:di (isH its i) (ah its i) p s=true):∀l,l<6->oT its i p s (L+1) l=if l=L then (oT its i p s L L||((s / 2).testBit L&&!isH its i&&decide (s%2=0))) else oT its i p s L l:=by
 intro l hl
 unfold oT oA
 by_cases e:l=L
 ·subst e
  rw[if_pos rfl,hin]
  simp
  cases (s / 2).testBit l<;>cases isH its i<;>simp
 ·rw[if_neg e]
  have:decide (l<L+1)=decide (l<L):=by simp;omega
  rw[this]
theorem wz (its:List Wd.It)(i p s:Nat)(hok:bG (ah its i))(hin:di (isH its i) (ah its i) p s=true):∀m,m<6->tT its i p (s+1) m=(tT its i p s m||(plD (ah its i) p&&!(s / 2).testBit (mD (ah its i) p)&&isH its i&&decide (m=mD (ah its i) p))):=by
 intro m hm
 unfold tT
 rw[ou]
 unfold tA
 rw[zB hok p (s / 2) m hm,hin]
 cases isH its i<;>cases plD (ah its i) p<;>cases (s / 2).testBit (mD (ah its i) p)<;>simp
theorem O0 (its:List Wd.It)(hf:bH its)(l m:Nat):(eT its its.length 0 0 0 l m||(oT its its.length 0 0 0 l&&tT its its.length 0 0 m))=true↔Eg its l m:=by
 unfold eT oT tT
 simp only[Nat.not_lt_zero,decide_false,Bool.false_and,Bool.or_false,Bool.or_eq_true,Bool.and_eq_true,OZ]
 have key:∀(i p s:Nat),i<its.length->Rch (isH its i) (ah its i) (eP p s)->s<128->p<mX its i:=fun i p s hi hr hs=>by
  have h1:p<=(ah its i).length:=(hr.ok (hf.gb hi)).2.le
  unfold mX;omega
 refine or_congr ⟨?_,?_⟩ (and_congr ⟨?_,?_⟩ ⟨?_,?_⟩)
 ·rintro ⟨i,hi,p,hp,s,hs,e⟩
  unfold eA at e
  rw[Bool.and_eq_true,Bool.and_eq_true,lM] at e
  exact ⟨i,hi,eP p s,e.1.1.2,e.1.2,e.2⟩
 ·rintro ⟨i,hi,s,hr,e1,e2⟩
  have hok:=hr.ok (hf.gb hi)
  have hd:=mO s.2.2 hok.1
  have hst:eP s.1 (dn s.2.1 s.2.2)=s:=nA _ _ _
  refine ⟨i,hi,s.1,key i s.1 (dn s.2.1 s.2.2) hi (by rw[hst];exact hr) hd,dn s.2.1 s.2.2,hd,?_⟩
  unfold eA
  rw[Bool.and_eq_true,Bool.and_eq_true,lM,o9]
  exact ⟨⟨⟨hd,by rw[hst];exact hr⟩,e1⟩,e2⟩
 ·rintro ⟨i,hi,p,hp,s,hs,e⟩
  unfold oA at e
  simp only[Bool.and_eq_true,lM,Bool.not_eq_true',decide_eq_true_eq] at e
  refine ⟨i,hi,e.1.1.2,eP p s,e.1.1.1.2,?_,e.2⟩
  show decide (s%2=1)=false
  simp;omega
 ·rintro ⟨i,hi,hh,s,hr,e1,e2⟩
  have hok:=hr.ok (hf.gb hi)
  have hd:=mO s.2.2 hok.1
  have hst:eP s.1 (dn s.2.1 s.2.2)=s:=nA _ _ _
  refine ⟨i,hi,s.1,key i s.1 (dn s.2.1 s.2.2) hi (by rw[hst];exact hr) hd,dn s.2.1 s.2.2,hd,?_⟩
  unfold oA
  simp only[Bool.and_eq_true,lM,Bool.not_eq_true',decide_eq_true_eq,o9]
  refine ⟨⟨⟨⟨hd,by rw[hst];exact hr⟩,hh⟩,?_⟩,e2⟩
  rw[e1];simp[dn]
 ·rintro ⟨i,hi,p,hp,s,hs,e⟩
  unfold tA at e
  simp only[Bool.and_eq_true,lM] at e
  exact ⟨i,hi,e.1.2,eP p s,e.1.1.2,e.2⟩
 ·rintro ⟨i,hi,hh,s,hr,e2⟩
  have hok:=hr.ok (hf.gb hi)
  have hd:=mO s.2.2 hok.1
  have hst:eP s.1 (dn s.2.1 s.2.2)=s:=nA _ _ _
  refine ⟨i,hi,s.1,key i s.1 (dn s.2.1 s.2.2) hi (by rw[hst];exact hr) hd,dn s.2.1 s.2.2,hd,?_⟩
  unfold tA
  simp only[Bool.and_eq_true,lM,o9]
  exact ⟨⟨⟨hd,by rw[hst];exact hr⟩,hh⟩,e2⟩
end
section
open Mc
def kH (i j:Nat)(n:Nat):Bool:=(List.range n).all (fun l=>!(i.testBit l&&j.testBit l))
theorem KX (i j n:Nat):kH i j (n+1)=(kH i j n&&!(i.testBit n&&j.testBit n)):=by simp[kH,List.range_succ]
theorem MX (i j:Nat)(hi:i<64)(hj:j<64):kH i j 6=decide (i &&& j=0):=by
 rw[Bool.eq_iff_iff,decide_eq_true_eq]
 unfold kH
 rw[List.all_eq_true]
 constructor
 ·intro h
  apply Nat.eq_of_testBit_eq
  intro l
  rw[Nat.testBit_and,Nat.zero_testBit]
  by_cases hl:l<6
  ·have:=h l (List.mem_range.2 hl)
   cases h1:i.testBit l<;>cases h2:j.testBit l<;>simp_all
  ·have h64:64<=2 ^ l:=Nat.pow_le_pow_right (n:=2) (i:=6) (by omega) (by omega)
   rw[Nat.testBit_lt_two_pow (show i<2 ^ l by omega)]
   rfl
 ·intro h l hl
  have h2:(i &&& j).testBit l=false:=by rw[h,Nat.zero_testBit]
  rw[Nat.testBit_and] at h2
  rw[h2];rfl
def nM (fa fb:Nat->Bool)(i n:Nat):Bool:=(List.range n).any (fun j=>fa i&&fb j&&decide (i &&& j=0))
def j3 (fa fb:Nat->Bool)(n:Nat):Bool:=(List.range n).any (fun i=>nM fa fb i 64)
theorem MZ (fa fb:Nat->Bool)(i n:Nat):nM fa fb i (n+1)=(nM fa fb i n||(fa i&&fb n&&decide (i &&& n=0))):=by simp[nM,List.range_succ]
theorem O1 (fa fb:Nat->Bool)(n:Nat):j3 fa fb (n+1)=(j3 fa fb n||nM fa fb n 64):=by simp[j3,List.range_succ]
theorem Sk {fa fb:Nat->Bool}{i j n:Nat}(hi:i<n)(hj:j<64)(h:(fa i&&fb j&&decide (i &&& j=0))=true):j3 fa fb n=true:=by
 unfold j3 nM
 rw[List.any_eq_true]
 exact ⟨i,List.mem_range.2 hi,by rw[List.any_eq_true];exact ⟨j,List.mem_range.2 hj,h⟩⟩
theorem O3 (w:World)(ga gb:Nat)(fa fb:Nat->Bool)(ha:Blk w ga 64 (fun h=>.bool (fa h)))(hb:Blk w gb 64 (fun h=>.bool (fb h))) :
  Calls Tryz.prog 72 #[.slice (some ⟨ga,0,none⟩) 64 64,.slice (some ⟨gb,0,none⟩) 64 64] w fun e w'=>e=.returned (.bool (j3 fa fb 64))/\w'=w:=by
 have HA:=hide ha
 have HB:=hide hb
 clear ha hb
 have AHO:=hide (fun h l W (hh:h<64) (hl:l<6)=>mE h l W (by omega) (by omega))
 go_enter Tryz.func72,Tryz.ntmps72
 go_wp2
 go_loop [5] (fun c=>∃i:Nat,i<=64/\c=.int .i64 i/\j3 fa fb i=false) (fun c=>64-(intOf c).toNat)
 case atStart=>exact ⟨0,by omega,rfl,rfl⟩
 case round =>
  obtain ⟨i,hi,rfl,h1⟩:=hrel
  have H1:=hide h1
  clear h1
  by_cases hit:i<64
  ·have hi0:(0:Int)<=(i:Int):=by omega
   go_wp2
   go_loop [6] (fun c=>∃j:Nat,j<=64/\c=.int .i64 j/\nM fa fb i j=false) (fun c=>64-(intOf c).toNat)
   case atStart=>exact ⟨0,by omega,rfl,rfl⟩
   case round =>
    obtain ⟨j,hj,rfl,h2⟩:=hrel
    have H2:=hide h2
    clear h2
    by_cases hjt:j<64
    ·have hj0:(0:Int)<=(j:Int):=by omega
     have c1:w.cell? ⟨ga,i,none⟩=some (.bool (fa i)):=HA.out.cell i hit
     have c2:w.cell? ⟨gb,j,none⟩=some (.bool (fb j)):=HB.out.cell j hjt
     have hs:=hide (MZ fa fb i j)
     have dH:=hide (fun h=>Sk (fa:=fa) (fb:=fb) (n:=64) hit hjt h)
     generalize fa i=o1 at *
     generalize fb j=o2 at *
     cases o1
     ·go_wp2
      go_round
      case measure=>simp[intOf];omega
      case rel=>exact ⟨j+1,by omega,by go_num,by rw[hs.out,H2.out];rfl⟩
     cases o2
     ·go_wp2
      go_round
      case measure=>simp[intOf];omega
      case rel=>exact ⟨j+1,by omega,by go_num,by rw[hs.out,H2.out];rfl⟩
     ·go_wp2
      go_loop [7,8] (fun a c=>∃l:Nat,l<=6/\c=.int .i64 l/\a=.bool (kH i j l)) (fun _ c=>6-(intOf c).toNat)
      case atStart=>exact ⟨0,by omega,rfl,rfl⟩
      case round =>
       obtain ⟨l,hl,rfl,rfl⟩:=hrel
       by_cases hlt:l<6
       ·have hfs:=hide (KX i j l)
        obtain ⟨x,hx⟩:∃x,i.testBit l=x:=⟨_,rfl⟩
        obtain ⟨y,hy⟩:∃y,j.testBit l=y:=⟨_,rfl⟩
        have AX:Hid (∀W,Calls Tryz.prog 70 #[.int .i64 (i:Int),.int .i64 (l:Int)] W fun e w'=>e=.returned (.bool x)/\w'=W):=hide (fun W=>by rw[<-hx];exact AHO.out i l W hit hlt)
        have AY:Hid (∀W,Calls Tryz.prog 70 #[.int .i64 (j:Int),.int .i64 (l:Int)] W fun e w'=>e=.returned (.bool y)/\w'=W):=hide (fun W=>by rw[<-hy];exact AHO.out j l W hjt hlt)
        rw[hx,hy] at hfs
        clear hx hy
        generalize kH i j l=f at *
        have hl0:(0:Int)<=(l:Int):=by omega
        cases f<;>cases x<;>cases y<;>(
         go_wp2_with (first|(go_at_call 70;have hx1:=hx0;refine (AY.out _).mono ?_;rintro e w' ⟨rfl,hww⟩;obtain rfl:=hww.symm;clear hww)|(go_at_call 70;refine (AX.out _).mono ?_;rintro e w' ⟨rfl,hww⟩;obtain rfl:=hww.symm;clear hww;have hx0:Hid True:=hide trivial))
         go_round
         case measure=>simp[intOf];omega
         case rel=>exact ⟨l+1,by omega,by go_num,by rw[hfs.out];rfl⟩)
       ·have e:l=6:=by omega
        subst e
        have hfx:=MX i j hit hjt
        by_cases hz:i &&& j=0
        ·have HZ:=hide hz
         have hf6:kH i j 6=true:=by rw[hfx];simp[hz]
         clear hfx hz
         generalize kH i j 6=f at *
         subst hf6
         go_wp2
         go_ret
         exact ⟨bW (by rw[dH.out (by simp[HZ.out])]),rfl⟩
        ·have HZ:=hide hz
         have hf6:kH i j 6=false:=by rw[hfx];simp[hz]
         clear hfx hz
         generalize kH i j 6=f at *
         subst hf6
         go_wp2
         go_round
         case measure=>simp[intOf];omega
         case rel=>exact ⟨j+1,by omega,by go_num,by rw[hs.out,H2.out];simp[HZ.out]⟩
    ·have e:j=64:=by omega
     subst e
     go_wp2
     go_round
     case measure=>simp[intOf];omega
     case rel=>exact ⟨i+1,by omega,by go_num,by rw[O1,H1.out,H2.out];rfl⟩
  ·have e:i=64:=by omega
   subst e
   go_wp2
   go_ret
   exact ⟨bW H1.out.symm,rfl⟩
end
section
open Mc
def mtD (b:List UInt8)(c:Nat)(wr:Bool)(p:Nat):Bool:=(decide (atB b p=119)||(decide (atB b p=114)&&!wr))&&decide (num b p=(c:Int))
noncomputable def wA (hd:Bool)(b:List UInt8)(c:Nat)(wr:Bool)(h:Nat)(i p s:Nat):Bool:=mtD b c wr p&&decide (s / 2=h)&&di hd b p s
noncomputable def wT (hd:Bool)(b:List UInt8)(c:Nat)(wr:Bool)(p s:Nat):Nat->Bool:=fun h=>gN (fun _=>0) (wA hd b c wr h) 0 p s
theorem Sl (hd:Bool)(b:List UInt8)(c:Nat)(wr:Bool):wT hd b c wr 0 0=fun _=>false:=by funext h;simp[wT,uW]
theorem G9 (hd:Bool)(b:List UInt8)(c:Nat)(wr:Bool)(p:Nat):wT hd b c wr (p+1) 0=wT hd b c wr p 128:=by funext h;simp[wT,wu]
theorem Sm (hd:Bool)(b:List UInt8)(c:Nat)(wr:Bool)(p:Nat)(h:mtD b c wr p=false):wT hd b c wr (p+1) 0=wT hd b c wr p 0:=by
 funext x
 simp[wT,gN,List.range_succ,wA,h]
theorem He (hd:Bool)(b:List UInt8)(c:Nat)(wr:Bool)(p s:Nat)(hm:mtD b c wr p=true):∀h,wT hd b c wr p (s+1) h=if h=s / 2 then (wT hd b c wr p s (s / 2)||di hd b p s) else wT hd b c wr p s h:=by
 intro h
 unfold wT
 rw[ou]
 by_cases e:h=s / 2
 ·subst e;simp[wA,hm]
 ·have:¬(s / 2=h):=fun e'=>e e'.symm
  simp[wA,this,e]
noncomputable def j4 (hd:Bool)(b:List UInt8)(c:Nat)(wr:Bool):Nat->Bool:=wT hd b c wr b.length 0
structure WyI (w W:World)(hd:Bool)(b:List UInt8)(g:Nat)(f:Nat->Bool):Prop where
 it:Row W w.heap.size #[.bool hd,.string (Wd.mkS b)] 37
 bl:Blk W g 64 (fun h=>.bool (f h))
 ge:w.heap.size<g
 b:Below w.heap.size w W
theorem WyI.below {w W W':World}{hd:Bool}{b:List UInt8}{g:Nat}{f:Nat->Bool}(h:WyI w W hd b g f)(hb:Below W.heap.size W W'):WyI w W' hd b g f:=⟨h.it.below hb,h.bl.below hb,h.ge,ak h.b hb⟩
theorem WyI.set {w W:World}{hd:Bool}{b:List UInt8}{g:Nat}{f f':Nat->Bool}(h:WyI w W hd b g f)(x:Nat)(v:Bool)(hf:∀y,f' y=if y=x then v else f y):WyI w (W.setCell ⟨g,x,none⟩ (.bool v)) hd b g f':=by
 have hg:=h.ge
 refine ⟨h.it.aA (by omega) _ _,(h.bl.set x _).congr (fun i hi=>?_),h.ge,h.b.setCell (show w.heap.size<=g by omega) _⟩
 rw[hf i]
 by_cases e:i=x<;>simp[e]
def F5 (w:World)(hd:Bool)(b:List UInt8)(c:Nat)(wr:Bool)(e:Ending)(w':World):Prop:=∃g,e=.returned (.slice (some ⟨g,0,none⟩) 64 64)/\w.heap.size<=g/\Blk w' g 64 (fun h=>.bool (j4 hd b c wr h))/\Below w.heap.size w w'
theorem QW (w:World)(hd:Bool)(b:List UInt8)(go n1 cap:Nat)(gs:Nat->Nat)(c:Nat)(wt:Bool)(hc:c<4)(hg:GB b)(hn1:n1=b.length+1)(hdt:DT w go gs b.length (di hd b)) :
  Calls Tryz.prog 71 #[.agg #[.bool hd,.string (Wd.mkS b)],.slice (some ⟨go,0,none⟩) n1 cap,.int .i64 c,.bool wt] w (F5 w hd b c wt):=by
 have HDT:=hide hdt
 have HN1:=hide hn1
 have hlen:b.length<=300:=hg.short
 have hbs:(Wd.mkS b).size=b.length:=Wd.bN b
 have hok:=hide hg.pair
 have hmk:∀W:World,(Instr.makeSlice 102 (.int .i64 64) (.int .i64 64)).run Tryz.prog W=.ok (.slice (some ⟨W.heap.size,0,none⟩) 64 64) (W.alloc (.cells (madeCells #[.bool false] 64) 4)):=fun W=>ze W 64 (by omega)
 clear hg hdt hn1
 have HW0:Hid (WyI w ((w.alloc (.cells #[.bool hd,.string (Wd.mkS b)] 37)).alloc (.cells (madeCells #[.bool false] 64) 4)) hd b (w.heap.size+1) (wT hd b c wt 0 0)):=by
  rw[Sl]
  have h:=zf (w.alloc (.cells #[.bool hd,.string (Wd.mkS b)] 37)) 64
  have e:(w.alloc (.cells #[.bool hd,.string (Wd.mkS b)] 37)).heap.size=w.heap.size+1:=by simp
  rw[e] at h
  exact hide ⟨(Row.new _ _ _).alloc _,h,by omega,aL (aD _ _) _⟩
 go_enter Tryz.func71,Tryz.ntmps71
 go_wp2
 generalize (w.alloc (.cells #[.bool hd,.string (Wd.mkS b)] 37)).alloc (.cells (madeCells #[.bool false] 64) 4)=W at *
 go_loopw [10] (fun a wr=>∃p:Nat,p<=b.length/\a=.int .i64 p/\WyI w wr hd b (w.heap.size+1) (wT hd b c wt p 0)) (fun a _=>b.length-(intOf a).toNat)
 case atStart=>exact ⟨0,by omega,rfl,HW0.out⟩
 case round =>
  clear HW0
  obtain ⟨p,hp,rfl,hw⟩:=hrel
  have HW:=hide hw
  clear hw
  have y1:wr.cell? ⟨w.heap.size,1,none⟩=some (.string (Wd.mkS b)):=HW.out.it.cell 1 rfl
  have hp0:(0:Int)<=(p:Int):=by omega
  have hpI:(p:Int)<=300:=by omega
  by_cases hpt:p<b.length
  ·have AA:=hide (fun W=>atD b hlen p (by omega) W)
   have AN:=hide (fun hc W=>vZ b hok.out hlen p (by omega) hc W)
   have hbd:=jG b p
   have hmt:Hid (mtD b c wt p=((decide (atB b p=119)||(decide (atB b p=114)&&!wt))&&decide (num b p=(c:Int)))):=hide rfl
   have hpn:(p:Int)<(n1:Int):=by have:=HN1.out;omega
   have HSK:=hide (Sm hd b c wt p)
   by_cases ht:(atB b p=119\/(atB b p=114/\wt=false))
   ·have hcc:atB b p=119\/atB b p=114:=by omega
    have AN':=hide (AN.out (by omega))
    obtain ⟨n,hn⟩:∃n,num b p=n:=⟨_,rfl⟩
    rw[hn] at AN' hmt
    have HT:=hide ht
    clear AN hn
    by_cases hnc:n=(c:Int)
    ·have hm1:mtD b c wt p=true:=by rw[hmt.out,hnc];rcases ht with e | ⟨e,e2⟩<;>simp[e];exact e2
     have HM1:=hide hm1
     subst hnc
     clear hmt hm1
     rcases ht with e | ⟨e,e2⟩
     ·rw[e] at AA
      clear hbd hcc e
      go_wp2_with (first|(go_at_call 68;refine (AA.out _).mono ?_;rintro e w' ⟨rfl,hww⟩;obtain rfl:=hww.symm;clear hww)|(go_at_call 69;refine (AN'.out _).mono ?_;rintro e w' ⟨rfl,hww⟩;obtain rfl:=hww.symm;clear hww))
      go_loopw [12] (fun a wr=>∃s:Nat,s<=128/\a=.int .i64 s/\WyI w wr hd b (w.heap.size+1) (wT hd b c wt p s)) (fun a _=>128-(intOf a).toNat)
      case atStart=>exact ⟨0,by omega,rfl,HW.out⟩
      case round =>
       clear HW y1
       obtain ⟨s,hs,rfl,hw⟩:=hrel
       have HW:=hide hw
       clear hw
       by_cases hst:s<128
       ·have pE:=HDT.out.below HW.out.b
        have z0:wr.cell? ⟨go,p,none⟩=some (.slice (some ⟨gs p,0,none⟩) 128 128):=pE.out.cell p (by omega)
        have z1:wr.cell? ⟨gs p,s,none⟩=some (.bool (di hd b p s)):=(pE.inn p (by omega)).cell s hst
        have hs0:(0:Int)<=(s:Int):=by omega
        obtain ⟨h,hh⟩:∃h,s / 2=h:=⟨_,rfl⟩
        have hq:(s:Int) / 2=(h:Int):=by omega
        have sS:(h:Int)<64:=by omega
        have hh0:(0:Int)<=(h:Int):=by omega
        have z2:wr.cell? ⟨w.heap.size+1,h,none⟩=some (.bool (wT hd b c wt p s h)):=HW.out.bl.cell h (by omega)
        have f2:=HW.out.bl.frozen h
        have HST:=hide (He hd b c wt p s HM1.out)
        rw[hh] at HST
        clear hh pE
        generalize di hd b p s=o at *
        obtain ⟨q,hq2⟩:∃q,wT hd b c wt p s h=q:=⟨_,rfl⟩
        rw[hq2] at z2 HST
        clear hq2
        cases q<;>cases o<;>(
         go_wp2
         skip
         go_round
         case measure=>simp[intOf];omega
         case rel=>exact ⟨s+1,by omega,by go_num,HW.out.set h _ (fun y=>by rw[HST.out y];rfl)⟩)
       ·have e:s=128:=by omega
        subst e
        rw[<-G9] at HW
        go_wp2
        go_round
        case measure=>simp[intOf];omega
        case rel=>exact ⟨p+1,by omega,by go_num,HW.out⟩
     ·rw[e] at AA
      clear hbd hcc e
      subst e2
      go_wp2_with (first|(go_at_call 68;refine (AA.out _).mono ?_;rintro e w' ⟨rfl,hww⟩;obtain rfl:=hww.symm;clear hww)|(go_at_call 69;refine (AN'.out _).mono ?_;rintro e w' ⟨rfl,hww⟩;obtain rfl:=hww.symm;clear hww))
      go_loopw [12] (fun a wr=>∃s:Nat,s<=128/\a=.int .i64 s/\WyI w wr hd b (w.heap.size+1) (wT hd b c false p s)) (fun a _=>128-(intOf a).toNat)
      case atStart=>exact ⟨0,by omega,rfl,HW.out⟩
      case round =>
       clear HW y1
       obtain ⟨s,hs,rfl,hw⟩:=hrel
       have HW:=hide hw
       clear hw
       by_cases hst:s<128
       ·have pE:=HDT.out.below HW.out.b
        have z0:wr.cell? ⟨go,p,none⟩=some (.slice (some ⟨gs p,0,none⟩) 128 128):=pE.out.cell p (by omega)
        have z1:wr.cell? ⟨gs p,s,none⟩=some (.bool (di hd b p s)):=(pE.inn p (by omega)).cell s hst
        have hs0:(0:Int)<=(s:Int):=by omega
        obtain ⟨h,hh⟩:∃h,s / 2=h:=⟨_,rfl⟩
        have hq:(s:Int) / 2=(h:Int):=by omega
        have sS:(h:Int)<64:=by omega
        have hh0:(0:Int)<=(h:Int):=by omega
        have z2:wr.cell? ⟨w.heap.size+1,h,none⟩=some (.bool (wT hd b c false p s h)):=HW.out.bl.cell h (by omega)
        have f2:=HW.out.bl.frozen h
        have HST:=hide (He hd b c false p s HM1.out)
        rw[hh] at HST
        clear hh pE
        generalize di hd b p s=o at *
        obtain ⟨q,hq2⟩:∃q,wT hd b c false p s h=q:=⟨_,rfl⟩
        rw[hq2] at z2 HST
        clear hq2
        cases q<;>cases o<;>(
         go_wp2
         skip
         go_round
         case measure=>simp[intOf];omega
         case rel=>exact ⟨s+1,by omega,by go_num,HW.out.set h _ (fun y=>by rw[HST.out y];rfl)⟩)
       ·have e:s=128:=by omega
        subst e
        rw[<-G9] at HW
        go_wp2
        go_round
        case measure=>simp[intOf];omega
        case rel=>exact ⟨p+1,by omega,by go_num,HW.out⟩
    ·have hm1:mtD b c wt p=false:=by rw[hmt.out];simp[hnc]
     have HM1:=hide hm1
     have hnc':(n==(c:Int))=false:=by simpa using hnc
     clear hmt hm1 hnc
     rcases ht with e | ⟨e,e2⟩
     ·rw[e] at AA
      clear hbd hcc e
      go_wp2_with (first|(go_at_call 68;refine (AA.out _).mono ?_;rintro e w' ⟨rfl,hww⟩;obtain rfl:=hww.symm;clear hww)|(go_at_call 69;refine (AN'.out _).mono ?_;rintro e w' ⟨rfl,hww⟩;obtain rfl:=hww.symm;clear hww))
      go_round
      case measure=>simp[intOf];omega
      case rel=>exact ⟨p+1,by omega,by go_num,by rw[HSK.out HM1.out];exact HW.out⟩
     ·rw[e] at AA
      clear hbd hcc e
      subst e2
      go_wp2_with (first|(go_at_call 68;refine (AA.out _).mono ?_;rintro e w' ⟨rfl,hww⟩;obtain rfl:=hww.symm;clear hww)|(go_at_call 69;refine (AN'.out _).mono ?_;rintro e w' ⟨rfl,hww⟩;obtain rfl:=hww.symm;clear hww))
      go_round
      case measure=>simp[intOf];omega
      case rel=>exact ⟨p+1,by omega,by go_num,by rw[HSK.out HM1.out];exact HW.out⟩
   ·have hm1:mtD b c wt p=false:=by
     rw[hmt.out]
     have e1:¬atB b p=119:=fun e=>ht (Or.inl e)
     by_cases e2:atB b p=114
     ·have e3:wt=true:=by cases wt;exact absurd (Or.inr ⟨e2,rfl⟩) ht;rfl
      simp[e1,e3]
     ·simp[e1,e2]
    have HM1:=hide hm1
    have e1:¬atB b p=119:=fun e=>ht (Or.inl e)
    by_cases e2:atB b p=114
    ·have e3:wt=true:=by cases wt;exact absurd (Or.inr ⟨e2,rfl⟩) ht;rfl
     subst e3
     rw[e2] at AA
     clear hmt hm1 ht AN hbd e1 e2
     go_wp2_with (first|(go_at_call 68;refine (AA.out _).mono ?_;rintro e w' ⟨rfl,hww⟩;obtain rfl:=hww.symm;clear hww)|(go_at_call 69;refine (AN'.out _).mono ?_;rintro e w' ⟨rfl,hww⟩;obtain rfl:=hww.symm;clear hww))
     go_round
     case measure=>simp[intOf];omega
     case rel=>exact ⟨p+1,by omega,by go_num,by rw[HSK.out HM1.out];exact HW.out⟩
    ·clear hmt hm1 ht AN
     generalize atB b p=a at *
     go_wp2_with (first|(go_at_call 68;refine (AA.out _).mono ?_;rintro e w' ⟨rfl,hww⟩;obtain rfl:=hww.symm;clear hww)|(go_at_call 69;refine (AN'.out _).mono ?_;rintro e w' ⟨rfl,hww⟩;obtain rfl:=hww.symm;clear hww))
     go_round
     case measure=>simp[intOf];omega
     case rel=>exact ⟨p+1,by omega,by go_num,by rw[HSK.out HM1.out];exact HW.out⟩
  ·have e:p=b.length:=by omega
   subst e
   go_wp2
   go_ret
   exact ⟨w.heap.size+1,rfl,by omega,HW.out.bl,HW.out.b⟩
end
end Go.Proofs.YtecmfdkhcffpmaaGreat
