/- RefC, RefD, Pure2, RefE, RefF, Pure3. -/
import Derived.Test.YtecmfdkhcffpmaaGreatB01
import Derived.Laws.Tables
import Derived.Laws.Rows
import Derived.Deep.WholeRow
import Derived.Laws.CopyOwn
namespace Go.Proofs.YtecmfdkhcffpmaaGreat
open Go.RowKit
set_option linter.unusedVariables false
set_option linter.unusedSimpArgs false
set_option linter.unusedSectionVars false
set_option maxHeartbeats 8000000
set_option maxRecDepth 100000
theorem Li (s:ByteArray)(m:Nat)(hm:s.size=m+1)(c:Int):Wd.fT s.data.toList c=((((s[m]'(by omega)).toNat:Nat):Int)==c):=by
 rw[Wd.dz s m (by omega),Wd.fT,Wd.aI,hm];rfl
theorem xR (c:Int)(s:ByteArray)(w:World)(hs:s.size<=100000)(hp:0<s.size)(h0:0<=c)(h1:c<=255) :
  Calls Tryz.prog 55 #[.int .u8 c,.string s] w fun e w'=>∃t:ByteArray,e=.returned (.tuple #[.int .i64 (Wd.vI c s.data.toList),.string t,.bool (Wd.qx c s.data.toList)])/\t.data.toList=Wd.vJ c s.data.toList/\∃n,w'=w.drewN n:=by
 obtain ⟨m,hm⟩:∃m,s.size=m+1:=⟨s.size-1,by omega⟩
 have hl:=Li s m hm
 have hlen:s.data.toList.length-1=m:=by rw[Wd.aI];omega
 unfold Wd.vI Wd.vJ Wd.qx
 by_cases b43:c=43
 ·subst b43
  have e:Wd.opened 43 s.data.toList=some (3,s.data.toList):=by simp[Wd.opened,hlen,show Wd.up 43=false from by decide]
  rw[e]
  exact Lb s m w hs hm
 by_cases b45:c=45
 ·subst b45
  have e:Wd.opened 45 s.data.toList=some (3,s.data.toList):=by simp[Wd.opened,hlen,show Wd.up 45=false from by decide]
  rw[e]
  exact Lc s m w hs hm
 by_cases oO:c=114
 ·subst oO
  have e:Wd.opened 114 s.data.toList=some (4,s.data.toList):=by simp[Wd.opened,hlen,show Wd.up 114=false from by decide]
  rw[e]
  exact JN s m w hs hm
 by_cases oP:c=119
 ·subst oP
  have e:Wd.opened 119 s.data.toList=some (4,s.data.toList):=by simp[Wd.opened,hlen,show Wd.up 119=false from by decide]
  rw[e]
  exact JO s m w hs hm
 by_cases b60:c=60
 ·subst b60
  have e:Wd.opened 60 s.data.toList=some (2,s.data.toList):=by simp[Wd.opened,hlen,show Wd.up 60=false from by decide]
  rw[e]
  exact Le s m w hs hm
 by_cases b62:c=62
 ·subst b62
  have e:Wd.opened 62 s.data.toList=some (2,s.data.toList):=by simp[Wd.opened,hlen,show Wd.up 62=false from by decide]
  rw[e]
  exact Lf s m w hs hm
 by_cases qL:c=122
 ·subst qL
  have e:Wd.opened 122 s.data.toList=some (2,s.data.toList):=by simp[Wd.opened,hlen,show Wd.up 122=false from by decide]
  rw[e]
  exact JQ s m w hs hm
 by_cases b40:c=40
 ·subst b40
  have e:Wd.opened 40 s.data.toList=some (2,s.data.toList++[40]):=by simp[Wd.opened,hlen,show Wd.up 40=false from by decide]
  rw[e]
  exact Lg s m w hs hm
 by_cases b91:c=91
 ·subst b91
  have e:Wd.opened 91 s.data.toList=some (2,s.data.toList++[91]):=by simp[Wd.opened,hlen,show Wd.up 91=false from by decide]
  rw[e]
  exact Lh s m w hs hm
 by_cases qM:c=124
 ·subst qM
  cases hb:((((s[m]'(by omega)).toNat:Nat):Int)==40)
  ·have e:Wd.opened 124 s.data.toList=none:=by simp[Wd.opened,hlen,show Wd.up 124=false from by decide,hl,hb];try omega
   rw[e]
   exact Jc s m w hs hm hb
  ·have e:Wd.opened 124 s.data.toList=some (2,s.data.toList.take m++[124]):=by simp[Wd.opened,hlen,show Wd.up 124=false from by decide,hl,hb];try omega
   rw[e]
   exact Ja s m w hs hm hb
 by_cases b41:c=41
 ·subst b41
  cases hb:((((s[m]'(by omega)).toNat:Nat):Int)==124)
  ·have e:Wd.opened 41 s.data.toList=none:=by simp[Wd.opened,hlen,show Wd.up 41=false from by decide,hl,hb];try omega
   rw[e]
   exact JU s m w hs hm hb
  ·have e:Wd.opened 41 s.data.toList=some (2,s.data.toList.take m):=by simp[Wd.opened,hlen,show Wd.up 41=false from by decide,hl,hb];try omega
   rw[e]
   exact JR s m w hs hm hb
 by_cases b93:c=93
 ·subst b93
  cases hb:((((s[m]'(by omega)).toNat:Nat):Int)==91)
  ·have e:Wd.opened 93 s.data.toList=none:=by simp[Wd.opened,hlen,show Wd.up 93=false from by decide,hl,hb];try omega
   rw[e]
   exact JV s m w hs hm hb
  ·have e:Wd.opened 93 s.data.toList=some (2,s.data.toList.take m):=by simp[Wd.opened,hlen,show Wd.up 93=false from by decide,hl,hb];try omega
   rw[e]
   exact JS s m w hs hm hb
 by_cases qN:c=125
 ·subst qN
  cases hb:((((s[m]'(by omega)).toNat:Nat):Int)==123)
  ·have e:Wd.opened 125 s.data.toList=none:=by simp[Wd.opened,hlen,show Wd.up 125=false from by decide,hl,hb];try omega
   rw[e]
   exact Jd s m w hs hm hb
  ·have e:Wd.opened 125 s.data.toList=some (0,[]):=by simp[Wd.opened,hlen,show Wd.up 125=false from by decide,hl,hb];try omega
   rw[e]
   exact Jb s m w hs hm hb
 cases hu:Wd.up c
 ·have e:Wd.opened c s.data.toList=none:=by simp[Wd.opened,hu,b43,b45,oO,oP,b60,b62,qL,b40,b91,qM,b41,b93,qN]
  rw[e]
  exact Nv s m w hs hm c h0 h1 b43 b45 oO oP b60 b62 qL b40 b91 qM b41 b93 qN hu
 ·have e:Wd.opened c s.data.toList=some (2,s.data.toList):=by simp[Wd.opened,hu,b43,b45,oO,oP]
  rw[e]
  have hu':=hu
  simp[Wd.up] at hu'
  exact Nu s m w hs hm c hu'.1 hu'.2
theorem pX {s:ByteArray}{k:Nat}{st:Wd.St}(hlt:k<s.size)(hp:Wd.place s.data.toList=Wd.jM (s.data.toList.drop k) k st)(h:Wd.gB st ((s[k].toNat:Nat):Int)=none):Wd.toInt (Wd.place s.data.toList)=(k:Int):=by
 rw[hp,Wd.Bc s k st hlt,h];rfl
theorem oh {s:ByteArray}{k:Nat}{st st':Wd.St}(hlt:k<s.size)(hp:Wd.place s.data.toList=Wd.jM (s.data.toList.drop k) k st)(h:Wd.gB st ((s[k].toNat:Nat):Int)=some st'):Wd.place s.data.toList=Wd.jM (s.data.toList.drop (k+1)) (k+1) st':=by
 rw[hp,Wd.Bc s k st hlt,h]
theorem rV {a b:Int}{op:List UInt8}{items items' k:Nat}(h:(⟨a,op,items⟩:Wd.St).ok k)(h1:items'<=8)(h2:b=0\/b=1\/((b=2\/b=3\/b=4)/\∃r,op=123::r)):(⟨b,op,items'⟩:Wd.St).ok (k+1) :=
 ⟨h1,Nat.le_succ_of_le h.2.1,h2⟩
theorem Nw (s:ByteArray)(w:World)(hs:s.size<=10000) :
  Calls Tryz.prog 27 #[.string s] w fun e w'=>e=.returned (.int .i64 (Wd.toInt (Wd.place s.data.toList)))/\Below w.heap.size w w':=by
 go_enter Tryz.func27,Tryz.ntmps27
 go_wp2
 go_loopw [3,4,5,6] (fun a b c d wr=>∃(k:Nat) (st:Wd.St) (o:ByteArray),k<=s.size/\a=.int .i64 st.want/\b=.string o/\o.data.toList=st.op/\c=.int .i64 st.items/\d=.int .i64 k/\st.ok k/\Wd.place s.data.toList=Wd.jM (s.data.toList.drop k) k st/\Below w.heap.size w wr) (fun _ _ _ d _=>s.size-(intOf d).toNat)
 case atStart=>exact ⟨0,⟨0,[],0⟩,⟨#[]⟩,Nat.zero_le _,rfl,rfl,rfl,rfl,rfl,⟨by decide,by decide,Or.inl rfl⟩,rfl,Below.refl _ _⟩
 case round =>
  obtain ⟨k,⟨want,op,items⟩,o,hk,rfl,rfl,hop,rfl,rfl,hok,hpl,hbe⟩:=hrel
  simp only at hop
  have HP:=hide hpl
  have HO:=hide hop
  have HK:=hide hok
  have HB:=hide hbe
  clear hpl hop hok hbe
  have hit:items<=8:=HK.out.1
  have hol:o.size<=k+1:=by rw[<-Wd.aI,HO.out];exact HK.out.2.1
  by_cases hlt:k<s.size
  ·have b0:=Wd.iL s.data.toList k
   have b1:=Wd.iD s.data.toList k
   rw[<-Wd.dz s k hlt] at b0 b1
   rcases HK.out.2.2 with hw|hw | ⟨hw,hr⟩
   ·simp only at hw;subst hw
    by_cases h8:items<8
    ·cases ht:(((s[k].toNat:Nat):Int)==116)
     ·cases hh:(((s[k].toNat:Nat):Int)==104)
      ·cases hu:Wd.up ((s[k].toNat:Nat):Int)
       ·go_wp2_with (go_at_call 52;refine (bM _ _ b0 b1).mono ?_;rintro e w' ⟨rfl,rfl⟩)
        go_ret
        refine ⟨aO (pX hlt HP.out ?_).symm,HB.out⟩
        simp at ht hh
        simp[Wd.gB,hu,ht,hh]
       ·go_wp2_with (go_at_call 52;refine (bM _ _ b0 b1).mono ?_;rintro e w' ⟨rfl,rfl⟩)
        go_roundw
        case rel=>exact ⟨k+1,⟨1,op,items+1⟩,o,by omega,rfl,rfl,HO.out,by go_num,by go_num,rV HK.out (by omega) (Or.inr (Or.inl rfl)),oh hlt HP.out (by simp[Wd.gB,hu,h8]),HB.out⟩
        case measure=>simp[intOf];omega
      ·go_wp2_with (go_at_call 52;refine (bM _ _ b0 b1).mono ?_;rintro e w' ⟨rfl,rfl⟩)
       go_roundw
       case rel=>exact ⟨k+1,⟨1,op,items+1⟩,o,by omega,rfl,rfl,HO.out,by go_num,by go_num,rV HK.out (by omega) (Or.inr (Or.inl rfl)),oh hlt HP.out (by simp at hh;simp[Wd.gB,hh,h8]),HB.out⟩
       case measure=>simp[intOf];omega
     ·go_wp2_with (go_at_call 52;refine (bM _ _ b0 b1).mono ?_;rintro e w' ⟨rfl,rfl⟩)
      go_roundw
      case rel=>exact ⟨k+1,⟨1,op,items+1⟩,o,by omega,rfl,rfl,HO.out,by go_num,by go_num,rV HK.out (by omega) (Or.inr (Or.inl rfl)),oh hlt HP.out (by simp at ht;simp[Wd.gB,ht,h8]),HB.out⟩
      case measure=>simp[intOf];omega
    ·go_wp2
     go_ret
     exact ⟨aO (pX hlt HP.out (by simp[Wd.gB,h8])).symm,HB.out⟩
   ·simp only at hw;subst hw
    cases hc:(((s[k].toNat:Nat):Int)==123)
    ·go_wp2
     go_ret
     exact ⟨aO (pX hlt HP.out (by simp at hc;simp[Wd.gB,hc])).symm,HB.out⟩
    ·go_wp2
     go_roundw
     case rel=>exact ⟨k+1,⟨2,[123],items⟩,⟨#[123]⟩,by omega,rfl,rfl,rfl,rfl,by go_num,⟨hit,by simp,by simp⟩,oh hlt HP.out (by simp at hc;simp[Wd.gB,hc]),HB.out⟩
     case measure=>simp[intOf];omega
   ·have hos:0<o.size:=by
     rw[<-Wd.aI,HO.out];obtain ⟨r,hr⟩:=hr;simp only at hr;rw[hr];simp
    have HR:=hide hr
    clear hr
    rcases hw with hw|hw|hw
    ·simp only at hw;subst hw
     have HX:=xR ((s[k].toNat:Nat):Int) o
     have HX:=hide HX
     cases hq:Wd.opened ((s[k].toNat:Nat):Int) op with
     | none =>
      have q1:Wd.qx ((s[k].toNat:Nat):Int) o.data.toList=false:=by rw[HO.out];simp[Wd.qx,hq]
      have Q:=hide hq
      clear hq
      go_wp2_with (go_at_call 55;refine (xR _ _ _ (by omega) hos b0 b1).mono ?_;rw[q1];rintro e w' ⟨t,rfl,ht,n,rfl⟩)
      go_ret
      exact ⟨aO (pX hlt HP.out (by simp[Wd.gB,Q.out])).symm,below_drewN HB.out _⟩
     | some x =>
      have q1:Wd.qx ((s[k].toNat:Nat):Int) o.data.toList=true:=by rw[HO.out];simp[Wd.qx,hq]
      have q2:Wd.vI ((s[k].toNat:Nat):Int) o.data.toList=x.1:=by rw[HO.out];simp[Wd.vI,hq]
      have q3:Wd.vJ ((s[k].toNat:Nat):Int) o.data.toList=x.2:=by rw[HO.out];simp[Wd.vJ,hq]
      have Q:=hide hq
      clear hq
      have Q2:=hide q2
      have Q3:=hide q3
      clear q2 q3
      go_wp2_with (go_at_call 55;refine (xR _ _ _ (by omega) hos b0 b1).mono ?_;rw[q1,Q2.out,Q3.out];rintro e w' ⟨t,rfl,ht,n,rfl⟩)
      go_roundw
      case rel=>exact ⟨k+1,⟨x.1,x.2,items⟩,t,by omega,rfl,rfl,ht,rfl,by go_num,Wd.Nt Q.out HK.out.2.1 HR.out hit,oh hlt HP.out (by simp[Wd.gB,Q.out]),below_drewN HB.out _⟩
      case measure=>simp[intOf];omega
    ·simp only at hw;subst hw
     cases hc:Wd.lk ((s[k].toNat:Nat):Int)
     ·go_wp2_with (go_at_call 53;refine (Ew _ _ b0 b1).mono ?_;rintro e w' ⟨rfl,rfl⟩)
      go_ret
      exact ⟨aO (pX hlt HP.out (by simp[Wd.gB,hc])).symm,HB.out⟩
     ·go_wp2_with (go_at_call 53;refine (Ew _ _ b0 b1).mono ?_;rintro e w' ⟨rfl,rfl⟩)
      go_roundw
      case rel=>exact ⟨k+1,⟨2,op,items⟩,o,by omega,rfl,rfl,HO.out,rfl,by go_num,rV HK.out hit (Or.inr (Or.inr ⟨Or.inl rfl,HR.out⟩)),oh hlt HP.out (by simp[Wd.gB,hc]),HB.out⟩
      case measure=>simp[intOf];omega
    ·simp only at hw;subst hw
     cases hc:Wd.cl ((s[k].toNat:Nat):Int)
     ·go_wp2_with (go_at_call 54;refine (Ey _ _ b0 b1).mono ?_;rintro e w' ⟨rfl,rfl⟩)
      go_ret
      exact ⟨aO (pX hlt HP.out (by simp[Wd.gB,hc])).symm,HB.out⟩
     ·go_wp2_with (go_at_call 54;refine (Ey _ _ b0 b1).mono ?_;rintro e w' ⟨rfl,rfl⟩)
      go_roundw
      case rel=>exact ⟨k+1,⟨2,op,items⟩,o,by omega,rfl,rfl,HO.out,rfl,by go_num,rV HK.out hit (Or.inr (Or.inr ⟨Or.inl rfl,HR.out⟩)),oh hlt HP.out (by simp[Wd.gB,hc]),HB.out⟩
      case measure=>simp[intOf];omega
  ·have HE:=hide (Wd.Iw s k ⟨want,op,items⟩ (by omega) hk)
   cases hw:(want != 0)
   ·cases hi:((items:Int)==0)
    ·go_wp2
     go_ret
     refine ⟨aO ?_,HB.out⟩
     simp at hw hi
     rw[HP.out,HE.out];simp[hw,hi,Wd.toInt]
    ·go_wp2
     go_ret
     refine ⟨aO ?_,HB.out⟩
     simp at hw hi
     rw[HP.out,HE.out];simp[hw,hi,Wd.toInt]
   ·go_wp2
    go_ret
    refine ⟨aO ?_,HB.out⟩
    simp at hw
    rw[HP.out,HE.out];simp[hw,Wd.toInt]
namespace Wd
def plus (of:Nat->Int)(n c:Int):Int:=if up c=true then n+of (c-65).toNat else n+1
def eX (of:Nat->Int):List UInt8->Int->Int
 | [],n=>n
 | c::r,n=>if 300<plus of n (bt c) then 301 else eX of r (plus of n (bt c))
def size (l:List UInt8)(of:Nat->Int):Int:=eX of l 0
theorem Iy (of:Nat->Int)(s:ByteArray)(k:Nat)(n:Int)(h:k<s.size):eX of (s.data.toList.drop k) n =
  if 300<plus of n ((s[k].toNat:Nat):Int) then 301 else eX of (s.data.toList.drop (k+1)) (plus of n ((s[k].toNat:Nat):Int)):=by
 rw[drop_cons s k h];rfl
theorem Je (of:Nat->Int)(s:ByteArray)(k:Nat)(n:Int)(h:s.size<=k):eX of (s.data.toList.drop k) n=n:=by
 rw[List.drop_of_length_le (by rw[aI];exact h)];rfl
theorem Rn (of:Nat->Int)(h0:∀j,0<=of j)(n c:Int)(hn:0<=n):0<=plus of n c:=by
 have:=h0 (c-65).toNat
 unfold plus;split<;>omega
theorem JW (of:Nat->Int)(h0:∀j,0<=of j)(l:List UInt8)(n:Int)(hn:0<=n)(hn':n<=301):0<=eX of l n/\eX of l n<=301:=by
 induction l generalizing n with
 | nil=>exact ⟨hn,hn'⟩
 | cons c r ih =>
  unfold eX
  have:=Rn of h0 n (bt c) hn
  split
  ·omega
  ·exact ih _ this (by omega)
theorem Ro (of:Nat->Int)(h0:∀j,0<=of j)(l:List UInt8):0<=size l of/\size l of<=301:=JW of h0 l 0 (by omega) (by omega)
theorem yw {l:List UInt8}{c:Int}{i:Nat}(h:head l c=some i):i+1<l.length/\at_ l i=c:=by
 unfold head first at h
 have:=List.find?_some h
 simp[mK,heads] at this
 exact ⟨this.1.1,this.2⟩
def lu (l:List UInt8)(of:Nat->Int)(f:Nat):Int :=
 match head l (65+(f:Int)) with
 | some i=>size (body l i) of
 | none=>of f
def aU (l:List UInt8):Nat->Nat->Int
 | 0=>fun _=>0
 | k+1=>fun f=>lu l (aU l k) f
theorem rD (l:List UInt8)(k f:Nat):0<=aU l k f/\aU l k f<=301:=by
 induction k generalizing f with
 | zero=>exact ⟨by simp[aU],by simp[aU]⟩
 | succ k ih =>
  simp only[aU,lu]
  split
  ·exact Ro _ (fun j=>(ih j).1) _
  ·exact ih f
def bO (of:Nat->Int):Array Value:=#[.int .i64 (of 0),.int .i64 (of 1),.int .i64 (of 2),.int .i64 (of 3),.int .i64 (of 4),.int .i64 (of 5),.int .i64 (of 6),.int .i64 (of 7)]
theorem Fg (of:Nat->Int)(j:Nat)(h:j<8):(bO of)[j]?=some (.int .i64 (of j)):=by
 match j,h with
 | 0,_|1,_|2,_|3,_|4,_|5,_|6,_|7,_=>rfl
theorem PD (of:Nat->Int)(f:Nat)(v:Int)(h:f<8):(bO of).setIfInBounds f (.int .i64 v)=bO (fun j=>if j=f then v else of j):=by
 match f,h with
 | 0,_|1,_|2,_|3,_|4,_|5,_|6,_|7,_=>simp[bO]
theorem xS {a b:Nat->Int}(h:∀j,j<8->a j=b j):bO a=bO b:=by
 simp[bO,h]
theorem rM (of:Nat->Int):(bO of).all (·.oneCell')=true:=by simp[bO,Value.oneCell']
end Wd
theorem Ez (s:ByteArray)(of:Nat->Int)(w:World)(hs:s.size<=10000)(ho:∀j,0<=of j/\of j<=301) :
  Calls Tryz.prog 33 #[.string s,.agg (Wd.bO of)] w fun e w'=>e=.returned (.int .i64 (Wd.size s.data.toList of))/\Below w.heap.size w w':=by
 unfold Wd.bO
 go_enter Tryz.func33,Tryz.ntmps33
 go_wp2
 go_loopw [5,6] (fun a b wr=>∃(k:Nat) (n:Int),k<=s.size/\a=.int .i64 n/\b=.int .i64 k/\0<=n/\n<=300/\Wd.size s.data.toList of=Wd.eX of (s.data.toList.drop k) n/\(∀j,j<8->wr.cell? ⟨w.heap.size,j,none⟩=some (.int .i64 (of j)))/\Below w.heap.size w wr) (fun _ b _=>s.size-(intOf b).toNat)
 case atStart =>
  refine ⟨0,0,Nat.zero_le _,rfl,rfl,by omega,by omega,rfl,?_,(Below.refl _ _).alloc (Nat.le_refl _) _⟩
  intro j hj
  match j,hj with
  | 0,_|1,_|2,_|3,_|4,_|5,_|6,_|7,_=>simp
 case round =>
  obtain ⟨k,n,hk,rfl,rfl,hn0,hn1,hp,hcell,hbe⟩:=hrel
  have HP:=hide hp
  have HB:=hide hbe
  clear hp hbe
  by_cases hlt:k<s.size
  ·have HS:=hide (Wd.Iy of s k n hlt)
   have b0:=Wd.iL s.data.toList k
   have b1:=Wd.iD s.data.toList k
   rw[<-Wd.dz s k hlt] at b0 b1
   cases hu:Wd.up ((s[k].toNat:Nat):Int)
   ·have hpl:Wd.plus of n ((s[k].toNat:Nat):Int)=n+1:=by simp[Wd.plus,hu]
    rw[hpl] at HS
    clear hpl
    have HC:=hide hcell
    have HO:=hide ho
    clear hcell ho
    by_cases hg:300<n+1
    ·go_wp2_with (go_at_call 52;refine (bM _ _ b0 b1).mono ?_;rintro e w' ⟨rfl,rfl⟩)
     go_ret
     exact ⟨aO (by rw[HP.out,HS.out,if_pos hg]),HB.out⟩
    ·go_wp2_with (go_at_call 52;refine (bM _ _ b0 b1).mono ?_;rintro e w' ⟨rfl,rfl⟩)
     go_roundw
     case rel=>exact ⟨k+1,n+1,by omega,rfl,by go_num,by omega,by omega,by rw[HP.out,HS.out,if_neg (by omega)],HC.out,HB.out⟩
     case measure=>simp[intOf];omega
   ·have hu':=hu
    simp[Wd.up] at hu'
    have ho':=ho (s[k].toNat-65)
    have hc':=hcell (s[k].toNat-65) (by omega)
    have hpl:Wd.plus of n ((s[k].toNat:Nat):Int)=n+of (s[k].toNat-65):=by
     simp only[Wd.plus,hu,if_true];rw[show (((s[k].toNat:Nat):Int)-65).toNat=s[k].toNat-65 from by omega]
    rw[hpl] at HS
    clear hpl
    have HC:=hide hcell
    have HO:=hide ho
    clear hcell ho
    by_cases hg:300<n+of (s[k].toNat-65)
    ·go_wp2_with (go_at_call 52;refine (bM _ _ b0 b1).mono ?_;rintro e w' ⟨rfl,rfl⟩)
     go_ret
     exact ⟨aO (by rw[HP.out,HS.out,if_pos hg]),HB.out⟩
    ·go_wp2_with (go_at_call 52;refine (bM _ _ b0 b1).mono ?_;rintro e w' ⟨rfl,rfl⟩)
     go_roundw
     case rel=>exact ⟨k+1,n+of (s[k].toNat-65),by omega,rfl,by go_num,by omega,by omega,by rw[HP.out,HS.out,if_neg (by omega)],HC.out,HB.out⟩
     case measure=>simp[intOf];omega
  ·have HC:=hide hcell
   clear hcell
   go_wp2
   go_ret
   exact ⟨aO (by rw[HP.out,Wd.Je of s k n (by omega)]),HB.out⟩
theorem Tryz.i33:(Tryz.prog.info? 53).map (·.size)=some 8:=by kernel_rfl
theorem aj {w:World}{g j:Nat}{cs:Array Value}{t:TypeId}{v:Value}(hg:w.heap[g]?=some (.cells cs t (0,0)))(h:cs[j]?=some v):w.cell? ⟨g,j,none⟩=some v:=by
 rw[cell_of_row w g j cs t (0,0) hg];exact h
theorem bB {w:World}{g:Nat}{o:Obj}(hg:w.heap[g]?=some o):g<w.heap.size:=(Array.getElem?_eq_some_iff.1 hg).1
theorem dw {w w':World}(hb:Below w.heap.size w w'){g:Nat}{o:Obj}(hg:w.heap[g]?=some o):w'.heap[g]?=some o:=by
 rw[hb.block g (bB hg)];exact hg
theorem DR (s:ByteArray)(w:World)(hs:s.size<=10000) :
  Calls Tryz.prog 30 #[.string s] w fun e w'=>e=.returned (.agg (Wd.bO (Wd.aU s.data.toList 8)))/\Below w.heap.size w w':=by
 go_enter Tryz.func30,Tryz.ntmps30
 go_wp2
 go_loopw [4] (fun a wr=>∃(k:Nat),k<=8/\a=.int .i64 k/\wr.heap[w.heap.size]?=some (.cells (Wd.bO (fun _=>0)) 53 (0,0))/\wr.heap[w.heap.size+1]?=some (.cells (Wd.bO (Wd.aU s.data.toList k)) 53 (0,0))/\Below w.heap.size w wr) (fun a _=>8-(intOf a).toNat)
 case atStart =>
  refine ⟨0,by omega,rfl,heap_alloc2_old _ _ _,heap_alloc2_new _ _ _,((Below.refl _ _).alloc (Nat.le_refl _) _).alloc (by simp) _⟩
 case round =>
  obtain ⟨k,hk,rfl,hA,hO,hbe⟩:=hrel
  by_cases hlt:k<8
  ·have HA:=hide hA
   have HO:=hide hO
   have HB:=hide hbe
   clear hA hO hbe
   go_wp2_with (first|(refine wpList_load_row rfl 53 _ rfl _ rfl 53 _ (0,0) _ HO.out Tryz.underlying53 rfl Tryz.i33 ?_)|(refine wpList_store_row rfl 53 _ _ rfl _ _ rfl rfl 53 _ (heap_alloc_last _ _) Tryz.i33 rfl (Wd.rM _) ?_))
   rw[World.setRow_alloc_new]
   go_wp2_with fail
   have a1:(wr.alloc (.cells (Wd.bO (Wd.aU s.data.toList k)) 53)).heap[w.heap.size]?=some (.cells (Wd.bO (fun _=>0)) 53 (0,0)):=by
    rw[heap_alloc_old _ _ (bB HA.out)];exact HA.out
   have a2:(wr.alloc (.cells (Wd.bO (Wd.aU s.data.toList k)) 53)).heap[w.heap.size+1]?=some (.cells (Wd.bO (Wd.aU s.data.toList k)) 53 (0,0)):=by
    rw[heap_alloc_old _ _ (bB HO.out)];exact HO.out
   have a3:=heap_alloc_last wr (.cells (Wd.bO (Wd.aU s.data.toList k)) 53)
   have a4:Below w.heap.size w (wr.alloc (.cells (Wd.bO (Wd.aU s.data.toList k)) 53)):=HB.out.alloc HB.out.size _
   have a5:w.heap.size+1<wr.heap.size:=bB HO.out
   generalize wr.alloc (.cells (Wd.bO (Wd.aU s.data.toList k)) 53)=W at *
   generalize wr.heap.size=N at *
   go_loopw [6] (fun a wx=>∃(f:Nat),f<=8/\a=.int .i64 f/\wx.heap[w.heap.size]?=some (.cells (Wd.bO (fun _=>0)) 53 (0,0))/\wx.heap[w.heap.size+1]?=some (.cells (Wd.bO (Wd.aU s.data.toList k)) 53 (0,0))/\wx.heap[N]?=some (.cells (Wd.bO (fun j=>if j<f then Wd.aU s.data.toList (k+1) j else Wd.aU s.data.toList k j)) 53 (0,0))/\Below w.heap.size w wx) (fun a _=>8-(intOf a).toNat)
   case atStart =>
    exact ⟨0,by omega,rfl,a1,a2,by rw[a3];rfl,a4⟩
   case round =>
    clear HA HO HB a1 a2 a3 a4
    obtain ⟨f,hf,rfl,hA,hO,hN,hbe⟩:=hrel
    have HA:=hide hA
    have HO:=hide hO
    have HN:=hide hN
    have HB:=hide hbe
    clear hA hO hN hbe
    by_cases hfl:f<8
    ·cases hq:Wd.head s.data.toList (65+(f:Int)) with
     | none =>
      have Q:Hid (Wd.toInt (Wd.head s.data.toList (65+(f:Int)))=-1):=by rw[hq];rfl
      have Q2:Hid (Wd.aU s.data.toList (k+1) f=Wd.aU s.data.toList k f):=by
       apply hide;simp[Wd.aU,Wd.lu,hq]
      clear hq
      go_wp2_with (go_at_call 56;refine (mF _ _ _ (by omega) (by omega) (by omega)).mono ?_;rw[Q.out];rintro e w' ⟨rfl,rfl⟩)
      go_roundw
      case rel =>
       refine ⟨f+1,by omega,by go_num,HA.out,HO.out,?_,HB.out⟩
       rw[HN.out]
       congr 2
       apply Wd.xS
       intro j hj
       by_cases e:j=f
       ·subst e;simp[Q2.out]
       ·by_cases e2:j<f
        ·simp[e2,show j<f+1 by omega]
        ·simp[e2,show ¬j<f+1 by omega]
      case measure=>simp[intOf];omega
     | some i =>
      have Q:Hid (Wd.toInt (Wd.head s.data.toList (65+(f:Int)))=(i:Int)):=by rw[hq];rfl
      have Q2:Hid (Wd.aU s.data.toList (k+1) f=Wd.size (Wd.body s.data.toList i) (Wd.aU s.data.toList k)):=by
       apply hide;simp[Wd.aU,Wd.lu,hq]
      have hi:i+2<=s.size:=by have:=(Wd.yw hq).1;rw[Wd.aI] at this;omega
      clear hq
      go_wp2_with (go_at_call 56;refine (mF _ _ _ (by omega) (by omega) (by omega)).mono ?_;rw[Q.out];rintro e w' ⟨rfl,rfl⟩)
      refine (rJ s i _ (by omega) hi).mono ?_
      rintro e w1 ⟨t,rfl,ht,hts,rfl⟩
      have HT:=hide ht
      clear ht
      go_wp2_with (first|(refine wpList_load_row rfl 53 _ rfl _ rfl 53 _ (0,0) _ HO.out Tryz.underlying53 rfl Tryz.i33 ?_))
      refine (Ez t _ _ (by omega) (Wd.rD _ k)).mono ?_
      rw[HT.out,<-Q2.out]
      rintro e w2 ⟨rfl,hb2⟩
      have c1:=aj (dw hb2 HN.out) (Wd.Fg _ f hfl)
      have c2:=frozen_of_row w2 N f _ _ (dw hb2 HN.out)
      have HB2:=hide hb2
      clear hb2
      go_wp2_with fail
      go_roundw
      case rel =>
       have hNl:=bB HO.out
       refine ⟨f+1,by omega,by go_num,?_,?_,?_,?_⟩
       ·rw[heap_setCell_other _ _ _ _ (by simp;omega)];exact dw HB2.out HA.out
       ·rw[heap_setCell_other _ _ _ _ (by simp;omega)];exact dw HB2.out HO.out
       ·rw[heap_setCell_same _ _ _ _ _ _ (dw HB2.out HN.out),Wd.PD _ _ _ hfl]
        congr 2
        apply Wd.xS
        intro j hj
        by_cases e:j=f
        ·subst e;simp
        ·by_cases e2:j<f
         ·simp[e,e2,show j<f+1 by omega]
         ·simp[e,e2,show ¬j<f+1 by omega]
       ·exact (HB.out.trans (HB2.out.mono HB.out.size)).setCell (by simp;omega) _
      case measure=>simp[intOf];omega
    ·go_wp2_with (first|(refine wpList_load_row rfl 53 _ rfl _ rfl 53 _ (0,0) _ HN.out Tryz.underlying53 rfl Tryz.i33 ?_)|(refine wpList_store_row rfl 53 _ _ rfl _ _ rfl rfl 53 _ HO.out Tryz.i33 rfl (Wd.rM _) ?_))
     refine ⟨⟨k+1,by omega,by go_num,?_,?_,?_⟩,by simp[intOf];omega⟩
     ·rw[setRow_other _ _ _ _ (by omega)];exact HA.out
     ·rw[setRow_heap _ _ _ _ _ _ HO.out]
      congr 2
      apply Wd.xS
      intro j hj
      simp[show j<f by omega]
     ·exact below_setRow HB.out (by omega) _
  ·have HA:=hide hA
   have HO:=hide hO
   have HB:=hide hbe
   clear hA hO hbe
   obtain rfl:k=8:=by omega
   go_wp2_with (first|(refine wpList_load_row rfl 53 _ rfl _ rfl 53 _ (0,0) _ HO.out Tryz.underlying53 rfl Tryz.i33 ?_)|(refine wpList_store_row rfl 53 _ _ rfl _ _ rfl rfl 53 _ HA.out Tryz.i33 rfl (Wd.rM _) ?_))
   exact bodyPost_ret (v:=.agg (Wd.bO (Wd.aU s.data.toList 8))) (results_cell_row Tryz.results30 _ _ w.heap.size 53 _ (0,0) _ rfl (setRow_heap _ _ _ _ _ _ HA.out) Tryz.underlying53 rfl Tryz.i33) rfl ⟨rfl,below_setRow HB.out (Nat.le_refl _) _⟩
namespace Wd
def dF (b:Nat->Bool):Array Value:=((List.range 64).map fun j=>Value.bool (b j)).toArray
theorem nY (b:Nat->Bool):(dF b).size=64:=by simp[dF]
theorem rO (b:Nat->Bool)(j:Nat)(h:j<64):(dF b)[j]?=some (.bool (b j)):=by
 simp[dF,h]
theorem pW {a b:Nat->Bool}(h:∀j,j<64->a j=b j):dF a=dF b:=by
 unfold dF
 congr 1
 apply List.map_congr_left
 intro j hj
 rw[h j (by simpa using hj)]
theorem DU (b:Nat->Bool)(f:Nat)(v:Bool)(h:f<64):(dF b).setIfInBounds f (.bool v)=dF (fun j=>if j=f then v else b j):=by
 apply Array.ext
 ·simp[dF]
 ·intro i h1 h2
  rw[Array.getElem_setIfInBounds]
  ·simp[dF]
   by_cases e:f=i
   ·subst e;simp
   ·simp[e,Ne.symm e,show ¬i=f from fun x=>e x.symm]
  ·simpa [dF] using h1
theorem DV (b:Nat->Bool):(dF b).all (·.oneCell')=true:=by
 simp[dF,Value.oneCell']
def kz (b:List UInt8)(g:Nat):Bool:=b.any fun c=>bt c==65+(g:Int)
def calls (l:List UInt8)(f g:Nat):Bool :=
 match head l (65+(f:Int)) with
 | some i=>kz (body l i) g
 | none=>false
def gT (l:List UInt8)(n j:Nat):Bool:=decide (j / 8<n)&&calls l (j / 8) (j%8)
def lN (l b:List UInt8)(f k j:Nat):Bool:=if j / 8=f then kz (b.take k) (j%8) else gT l f j
theorem BK (s:ByteArray)(k g:Nat)(h:k<s.size):kz (s.data.toList.take (k+1)) g=(kz (s.data.toList.take k) g||(((s[k].toNat:Nat):Int)==65+(g:Int))):=by
 rw[List.take_succ_eq_append_getElem (by rw[aI];exact h)]
 simp[kz,bt]
 rfl
def upd (b:Nat->Bool)(k i j:Nat):Nat->Bool:=fun x=>if x=i*8+j then (b x||(b (i*8+k)&&b (k*8+j))) else b x
def lY (b:Nat->Bool)(k i:Nat):Nat->Nat->Bool
 | 0=>b
 | j+1=>upd (lY b k i j) k i j
def kI (b:Nat->Bool)(k:Nat):Nat->Nat->Bool
 | 0=>b
 | i+1=>lY (kI b k i) k i 8
def eu (b:Nat->Bool):Nat->Nat->Bool
 | 0=>b
 | k+1=>kI (eu b k) k 8
def round (l:List UInt8):Bool:=(first (fun i=>eu (gT l 8) 8 (i*8+i)) 8).isSome
end Wd
end Go.Proofs.YtecmfdkhcffpmaaGreat
