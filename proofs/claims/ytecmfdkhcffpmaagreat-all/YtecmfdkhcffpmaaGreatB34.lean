/- DocA, DocB, DocC. -/
import Derived.Test.YtecmfdkhcffpmaaGreatB25
import Derived.Test.YtecmfdkhcffpmaaGreatB33
import Derived.Test.YtecmfdkhcffpmaaGreatB17
import Derived.Deep.QuietTactic
import Derived.BigQuiet
namespace Go.Proofs.YtecmfdkhcffpmaaGreat
open Go.RowKit
set_option linter.unusedVariables false
set_option linter.unusedSimpArgs false
set_option linter.unusedSectionVars false
set_option maxHeartbeats 8000000
set_option maxRecDepth 100000
section
open Mc
theorem Tt (b:List UInt8)(hok:bG b)(hl:b.length<=300):bf [⟨false,b⟩]:=by
 refine ⟨by simp,fun i hi=>?_,fun i hi=>?_⟩
 ·have h0:i=0:=by simpa using hi
  subst h0
  show b.length<=10000
  omega
 ·have h0:i=0:=by simpa using hi
  subst h0
  exact hok
theorem FW (b:List UInt8)(hok:bG b)(hl:b.length<=300)(f:Fr)(handler off second:Bool)(hp:f.pos<=20000)(hf:f.held<=1000)(w:World) :
  Calls Tryz.prog 95 #[.string (Wd.mkS b),.agg #[.bool f.there,.int .i64 (f.item:Int),.int .i64 (f.pos:Int),.int .i64 (f.held:Int)],.bool handler,.bool off,.bool second] w fun e w'=>e=.returned (.tuple #[.int .u8 (alone b f handler off second).1,.agg #[.bool (alone b f handler off second).2.1.there,.int .i64 ((alone b f handler off second).2.1.item:Int),.int .i64 ((alone b f handler off second).2.1.pos:Int),.int .i64 ((alone b f handler off second).2.1.held:Int)],.bool (alone b f handler off second).2.2])/\Below w.heap.size w w' :=
 yH w [⟨false,b⟩] (Tt b hok hl) 0 f handler off second (by simp) hp hf
theorem atD (b:List UInt8)(hl:b.length<=300)(p:Nat)(hp:p<=20000)(w:World):Calls Tryz.prog 68 #[.string (Wd.mkS b),.int .i64 p] w fun e w'=>e=.returned (.int .u8 (atB b p))/\w'=w:=by
 have:=lV (Wd.mkS b) p w (by rw[Wd.bN];omega) hp
 rwa [Wd.fM] at this
theorem vZ (b:List UInt8)(hok:bG b)(hl:b.length<=300)(p:Nat)(hp:p<=20000)(hc:atB b p=43\/atB b p=45\/atB b p=114\/atB b p=119)(w:World):Calls Tryz.prog 69 #[.string (Wd.mkS b),.int .i64 p] w fun e w'=>e=.returned (.int .i64 (num b p))/\w'=w:=by
 have:=Dl (Wd.mkS b) p w (by rw[Wd.bN];omega) hp (fun h=>by
  rw[Wd.bN] at h
  rw[Wd.fM]
  have hpl:p<b.length:=by omega
  have hk:=hok p hpl
  have ha:atB b p=Wd.at_ b p:=by simp[atB,hpl]
  rw[ha] at hc
  rcases hc with e|e|e|e
  ·have:=(hk.1 (Or.inl e)).2.1;omega
  ·have:=(hk.1 (Or.inr e)).2.1;omega
  ·have:=(hk.2 (Or.inl e)).2.1;omega
  ·have:=(hk.2 (Or.inr e)).2.1;omega)
 rwa [Wd.fM] at this
theorem Iq {b:List UInt8}(hok:bG b){p h:Nat}{hd off:Bool}(hc:atB b p=45\/atB b p=60\/atB b p=62):(aB hd b p h off=0/\(alone b ⟨false,0,p,h⟩ hd off false).1=atB b p)\/((aB hd b p h off=85\/aB hd b p h off=73)/\(alone b ⟨false,0,p,h⟩ hd off false).1=aB hd b p h off):=by
 unfold alone aB
 by_cases e45:atB b p=45
 ·rw[ku hok (Or.inr e45)]
  cases hq:holds h (num b p).toNat<;>simp[e45,hq]
 ·have e60:atB b p=60\/atB b p=62:=by omega
  have n43:atB b p≠43:=by omega
  have n122:atB b p≠122:=by omega
  cases hd<;>simp[e45,e60,n43,n122]
theorem Tv (hd:Bool)(b:List UInt8)(p s h:Nat)(off:Bool)(w:World)(hl:b.length<=300)(hp:p<=20000)(hs:s<128)(hok:bG b)(hh:s / 2=h)(hm:(s:Int)%2=cond off 1 0) :
  Calls Tryz.prog 66 #[.agg #[.bool hd,.string (Wd.mkS b)],.int .i64 p,.int .i64 s] w fun e w'=>e=.returned (.int .u8 (aB hd b p h off))/\Below w.heap.size w w':=by
 have hq:(s:Int) / 2=(h:Int):=by omega
 have sS:h<64:=by omega
 have hsI:(s:Int)<128:=by omega
 have AA:=hide (fun W=>atD b hl p hp W)
 have AL:Hid (∀W,Calls Tryz.prog 95 #[.string (Wd.mkS b),.agg #[.bool false,.int .i64 0,.int .i64 (p:Int),.int .i64 (h:Int)],.bool hd,.bool off,.bool false] W fun e w'=>∃v,e=.returned (.tuple #[.int .u8 (alone b ⟨false,0,p,h⟩ hd off false).1,.agg #[.bool (alone b ⟨false,0,p,h⟩ hd off false).2.1.there,.int .i64 ((alone b ⟨false,0,p,h⟩ hd off false).2.1.item:Int),.int .i64 ((alone b ⟨false,0,p,h⟩ hd off false).2.1.pos:Int),.int .i64 ((alone b ⟨false,0,p,h⟩ hd off false).2.1.held:Int)],.bool v])/\Below W.heap.size W w'):=hide (fun W=>(FW b hok hl ⟨false,0,p,h⟩ hd off false hp (by show h<=1000;omega) W).mono (fun e w' h=>⟨_,h⟩))
 have AN:=hide (fun hc W=>vZ b hok hl p hp hc W)
 have AH:=hide (fun l W (hl:l<=20)=>mE h l W (by omega) hl)
 have HB:=hide (aD w (.cells #[.bool hd,.string (Wd.mkS b)] 37))
 have hbd:=jG b p
 have HOK:=hide hok
 clear hok hh
 by_cases fw:atB b p=101
 ·have hF:Hid (aB hd b p h off=if (h==0)=false\/(off=true/\hd=false) then 69 else 0):=hide (by unfold aB;rw[if_neg (by omega),if_neg (by omega),if_neg (by omega),if_neg (by omega),if_pos fw])
  rw[fw] at AA
  rw[hF.out]
  clear hF AL AN AH hbd fw
  by_cases h0:h=0
  ·subst h0
   cases off<;>cases hd<;>(
    go_enter Tryz.func66,Tryz.ntmps66
    go_wp2_with (first|(go_at_call 68;refine (AA.out _).mono ?_;rintro e w' ⟨rfl,hww⟩;obtain rfl:=hww.symm;clear hww))
    go_ret
    exact ⟨rfl,HB.out⟩)
  ·have hpos:(0:Int)<(h:Int):=by omega
   have h0':(h==0)=false:=by simpa using h0
   rw[if_pos (Or.inl h0')]
   clear h0 h0'
   go_enter Tryz.func66,Tryz.ntmps66
   go_wp2_with (first|(go_at_call 68;refine (AA.out _).mono ?_;rintro e w' ⟨rfl,hww⟩;obtain rfl:=hww.symm;clear hww))
   go_ret
   exact ⟨rfl,HB.out⟩
 by_cases h43:atB b p=43
 ·have hF:Hid (aB hd b p h off=if holds h (num b p).toNat=true then 68 else 0):=hide (by unfold aB;rw[if_pos h43,ku HOK.out (Or.inl h43)])
  have hnl:=jD HOK.out (Or.inl h43)
  have AN':=hide (AN.out (Or.inl h43))
  rw[h43] at AA
  rw[hF.out]
  clear hF AL AN hbd h43 fw
  obtain ⟨l,hl'⟩:∃l:Nat,num b p=(l:Int):=⟨(num b p).toNat,by omega⟩
  rw[hl'] at AN' ⊢
  rw[show ((l:Int)).toNat=l from rfl]
  have Uw:l<=20:=by omega
  have AH':=hide (fun W=>AH.out l W Uw)
  clear hl' AH hnl
  generalize holds h l=o at *
  cases o<;>(
   go_enter Tryz.func66,Tryz.ntmps66
   go_wp2_with (first|(go_at_call 68;refine (AA.out _).mono ?_;rintro e w' ⟨rfl,hww⟩;obtain rfl:=hww.symm;clear hww)|(go_at_call 69;refine (AN'.out _).mono ?_;rintro e w' ⟨rfl,hww⟩;obtain rfl:=hww.symm;clear hww)|(go_at_call 70;refine (AH'.out _).mono ?_;rintro e w' ⟨rfl,hww⟩;obtain rfl:=hww.symm;clear hww))
   go_ret
   exact ⟨rfl,HB.out⟩)
 by_cases h122:atB b p=122
 ·have hF:Hid (aB hd b p h off=if hd=true\/off=true\/(h==0)=false then 83 else 0):=hide (by unfold aB;rw[if_neg (by omega),if_neg (by omega),if_pos h122])
  rw[h122] at AA
  rw[hF.out]
  clear hF AL AN AH hbd h122 h43 fw
  by_cases h0:h=0
  ·subst h0
   cases off<;>cases hd<;>(
    go_enter Tryz.func66,Tryz.ntmps66
    go_wp2_with (first|(go_at_call 68;refine (AA.out _).mono ?_;rintro e w' ⟨rfl,hww⟩;obtain rfl:=hww.symm;clear hww))
    go_ret
    exact ⟨rfl,HB.out⟩)
  ·have hpos:(0:Int)<(h:Int):=by omega
   have h0':(h==0)=false:=by simpa using h0
   rw[if_pos (Or.inr (Or.inr h0'))]
   clear h0 h0'
   cases hd<;>(
    go_enter Tryz.func66,Tryz.ntmps66
    go_wp2_with (first|(go_at_call 68;refine (AA.out _).mono ?_;rintro e w' ⟨rfl,hww⟩;obtain rfl:=hww.symm;clear hww))
    go_ret
    exact ⟨rfl,HB.out⟩)
 by_cases h45:atB b p=45\/atB b p=60\/atB b p=62
 ·have hal:=Iq HOK.out (h:=h) (hd:=hd) (off:=off) h45
  generalize (alone b ⟨false,0,p,h⟩ hd off false).1=t at *
  generalize (alone b ⟨false,0,p,h⟩ hd off false).2.1.there=t1 at *
  generalize (alone b ⟨false,0,p,h⟩ hd off false).2.1.item=t2 at *
  generalize (alone b ⟨false,0,p,h⟩ hd off false).2.1.pos=t3 at *
  generalize (alone b ⟨false,0,p,h⟩ hd off false).2.1.held=t4 at *
  generalize aB hd b p h off=F at *
  clear AN AH hbd h122 h43 fw
  generalize atB b p=c at *
  rcases hal with ⟨rfl,rfl⟩ | ⟨hF|hF,rfl⟩
  ·rcases h45 with rfl|rfl|rfl<;>cases off<;>(
    go_enter Tryz.func66,Tryz.ntmps66
    go_wp2_with (first|(go_at_call 68;refine (AA.out _).mono ?_;rintro e w' ⟨rfl,hww⟩;obtain rfl:=hww.symm;clear hww)|(go_at_call 95;refine (AL.out _).mono ?_;rintro e w' ⟨v,rfl,hb1⟩;have HB1:=hide (aL (ak HB.out hb1));clear hb1))
    go_ret
    exact ⟨rfl,HB1.out _⟩)
  ·subst hF
   rcases h45 with rfl|rfl|rfl<;>cases off<;>(
    go_enter Tryz.func66,Tryz.ntmps66
    go_wp2_with (first|(go_at_call 68;refine (AA.out _).mono ?_;rintro e w' ⟨rfl,hww⟩;obtain rfl:=hww.symm;clear hww)|(go_at_call 95;refine (AL.out _).mono ?_;rintro e w' ⟨v,rfl,hb1⟩;have HB1:=hide (aL (ak HB.out hb1));clear hb1))
    go_ret
    exact ⟨rfl,HB1.out _⟩)
  ·subst hF
   rcases h45 with rfl|rfl|rfl<;>cases off<;>(
    go_enter Tryz.func66,Tryz.ntmps66
    go_wp2_with (first|(go_at_call 68;refine (AA.out _).mono ?_;rintro e w' ⟨rfl,hww⟩;obtain rfl:=hww.symm;clear hww)|(go_at_call 95;refine (AL.out _).mono ?_;rintro e w' ⟨v,rfl,hb1⟩;have HB1:=hide (aL (ak HB.out hb1));clear hb1))
    go_ret
    exact ⟨rfl,HB1.out _⟩)
 ·have hF:Hid (aB hd b p h off=0):=hide (by unfold aB;rw[if_neg h43,if_neg (by omega),if_neg h122,if_neg (by omega),if_neg fw])
  rw[hF.out]
  have m45:atB b p≠45:=by omega
  have m60:atB b p≠60:=by omega
  have m62:atB b p≠62:=by omega
  clear hF AL AN AH h45
  generalize atB b p=c at *
  go_enter Tryz.func66,Tryz.ntmps66
  go_wp2_with (first|(go_at_call 68;refine (AA.out _).mono ?_;rintro e w' ⟨rfl,hww⟩;obtain rfl:=hww.symm;clear hww))
  all_goals first|(exfalso;omega)|(go_ret;exact ⟨rfl,HB.out⟩)
theorem Em (hd:Bool)(b:List UInt8)(p s:Nat)(w:World)(hl:b.length<=300)(hp:p<=20000)(hs:s<128)(hok:bG b) :
  Calls Tryz.prog 66 #[.agg #[.bool hd,.string (Wd.mkS b)],.int .i64 p,.int .i64 s] w fun e w'=>e=.returned (.int .u8 (wrD hd b p s))/\Below w.heap.size w w' :=
 Tv hd b p s (s / 2) (decide (s%2=1)) w hl hp hs hok rfl (by by_cases h:s%2=1<;>simp[h]<;>omega)
end
section
open Mc
theorem QF (hd:Bool)(b:List UInt8)(p s h:Nat)(off k:Bool)(w:World)(hl:b.length<=300)(hp:p<=20000)(hs:s<128)(hok:bG b)(hh:s / 2=h)(hm:(s:Int)%2=cond off 1 0)(hal:(alone b ⟨false,0,p,h⟩ hd off k).2.1.pos<=20000/\(alone b ⟨false,0,p,h⟩ hd off k).2.1.held<64) :
  Calls Tryz.prog 123 #[.agg #[.bool hd,.string (Wd.mkS b)],.int .i64 p,.int .i64 s,.bool k] w fun e w'=>e=.returned (.tuple #[.int .i64 (if atB b p=43 then (p:Int)+2 else if atB b p=122 then (p:Int)+1 else ((alone b ⟨false,0,p,h⟩ hd off k).2.1.pos:Int)),.int .i64 (if atB b p=43 then 2*((h:Int)+(2 ^ (num b p).toNat:Nat))+cond off 1 0 else if atB b p=122 then (s:Int) else 2*((alone b ⟨false,0,p,h⟩ hd off k).2.1.held:Int)+cond (alone b ⟨false,0,p,h⟩ hd off k).2.2 1 0)])/\Below w.heap.size w w':=by
 have hq:(s:Int) / 2=(h:Int):=by omega
 have sS:h<64:=by omega
 have hsI:(s:Int)<128:=by omega
 have hpI:(p:Int)<=20000:=by omega
 have AA:=hide (fun W=>atD b hl p hp W)
 have AL:Hid (∀W,Calls Tryz.prog 95 #[.string (Wd.mkS b),.agg #[.bool false,.int .i64 0,.int .i64 (p:Int),.int .i64 (h:Int)],.bool hd,.bool off,.bool k] W fun e w'=>e=.returned (.tuple #[.int .u8 (alone b ⟨false,0,p,h⟩ hd off k).1,.agg #[.bool (alone b ⟨false,0,p,h⟩ hd off k).2.1.there,.int .i64 ((alone b ⟨false,0,p,h⟩ hd off k).2.1.item:Int),.int .i64 ((alone b ⟨false,0,p,h⟩ hd off k).2.1.pos:Int),.int .i64 ((alone b ⟨false,0,p,h⟩ hd off k).2.1.held:Int)],.bool (alone b ⟨false,0,p,h⟩ hd off k).2.2])/\Below W.heap.size W w'):=hide (fun W=>FW b hok hl ⟨false,0,p,h⟩ hd off k hp (by show h<=1000;omega) W)
 have AN:=hide (fun hc W=>vZ b hok hl p hp hc W)
 have HB:=hide (aD w (.cells #[.bool hd,.string (Wd.mkS b)] 37))
 have hbd:=jG b p
 have HOK:=hide hok
 have HAL:=hide hal
 clear hok hh hal
 by_cases h43:atB b p=43
 ·have hnl:=jD HOK.out (Or.inl h43)
  have AN':=hide (AN.out (Or.inl h43))
  rw[h43] at AA
  simp only[h43,if_true]
  clear AL AN hbd h43
  obtain ⟨l,hl'⟩:∃l:Nat,num b p=(l:Int):=⟨(num b p).toNat,by omega⟩
  rw[hl'] at AN' ⊢
  rw[show ((l:Int)).toNat=l from rfl]
  have hl5:l<6:=by omega
  have hpw:2 ^ l<64:=by
   have hpp:∀l,l<6->2 ^ l<64:=by decide
   exact hpp l hl5
  have AP:Hid (∀W,Calls Tryz.prog 97 #[.int .i64 l] W fun e w'=>e=.returned (.int .i64 ((2 ^ l:Nat):Int))/\w'=W):=hide (fun W=>uY l W (by omega))
  clear hl' hnl
  generalize 2 ^ l=v at *
  have hv:(v:Int)<64:=by omega
  cases off<;>(
   go_enter Tryz.func123,Tryz.ntmps123
   go_wp2_with (first|(go_at_call 68;refine (AA.out _).mono ?_;rintro e w' ⟨rfl,hww⟩;obtain rfl:=hww.symm;clear hww)|(go_at_call 69;refine (AN'.out _).mono ?_;rintro e w' ⟨rfl,hww⟩;obtain rfl:=hww.symm;clear hww)|(go_at_call 97;refine (AP.out _).mono ?_;rintro e w' ⟨rfl,hww⟩;obtain rfl:=hww.symm;clear hww))
   go_ret2
   exact ⟨rfl,HB.out⟩)
 by_cases h122:atB b p=122
 ·rw[h122] at AA
  simp only[h122,if_true]
  rw[if_neg (by decide),if_neg (by decide)]
  clear AL AN hbd h43 h122
  go_enter Tryz.func123,Tryz.ntmps123
  go_wp2_with (first|(go_at_call 68;refine (AA.out _).mono ?_;rintro e w' ⟨rfl,hww⟩;obtain rfl:=hww.symm;clear hww))
  go_ret2
  exact ⟨rfl,HB.out⟩
 ·simp only[h43,h122,if_false]
  clear AN
  have hal:=HAL.out
  generalize (alone b ⟨false,0,p,h⟩ hd off k).1=t at *
  generalize (alone b ⟨false,0,p,h⟩ hd off k).2.1.there=t1 at *
  generalize (alone b ⟨false,0,p,h⟩ hd off k).2.1.item=t2 at *
  generalize (alone b ⟨false,0,p,h⟩ hd off k).2.1.pos=t3 at *
  generalize (alone b ⟨false,0,p,h⟩ hd off k).2.1.held=t4 at *
  generalize (alone b ⟨false,0,p,h⟩ hd off k).2.2=t5 at *
  generalize atB b p=c at *
  have ht3:(t3:Int)<=20000:=by omega
  have ht4:(t4:Int)<64:=by omega
  cases off<;>cases t5<;>(
   go_enter Tryz.func123,Tryz.ntmps123
   go_wp2_with (first|(go_at_call 68;refine (AA.out _).mono ?_;rintro e w' ⟨rfl,hww⟩;obtain rfl:=hww.symm;clear hww)|(go_at_call 95;refine (AL.out _).mono ?_;rintro e w' ⟨rfl,hb1⟩;have HB1:=hide (ak HB.out hb1);clear hb1))
   go_quiet (fail)
   go_wp2
   go_ret2
   exact ⟨by simp,below_drewN (aL HB1.out _) _⟩)
theorem KS (hd:Bool)(b:List UInt8)(p s:Nat)(k:Bool)(w:World)(hg:GB b)(hs:s<128)(hpl:Pl b p)(hp:p<b.length)(hw:wrD hd b p s=0) :
  Calls Tryz.prog 123 #[.agg #[.bool hd,.string (Wd.mkS b)],.int .i64 p,.int .i64 s,.bool k] w fun e w'=>e=.returned (.tuple #[.int .i64 ((bQ b p s k).1:Int),.int .i64 ((bQ b p s k).2:Int)])/\Below w.heap.size w w':=by
 have hsh:=hg.short
 have hm:(s:Int)%2=cond (decide (s%2=1)) 1 0:=by by_cases h:s%2=1<;>simp[h]<;>omega
 have hn:=fun h43=>MI hg (second:=k) hpl hp (show aB hd b p (s / 2) (decide (s%2=1))=0 from hw) h43 ⟨false,0,p,s / 2⟩ rfl rfl
 have hin:SOK b (eP p s):=⟨by show s / 2<64;omega,hpl⟩
 have hnx:=(hin.stp hg (hd:=hd) k)
 have hst:Mc.stp hd b (eP p s) k=aG b p (s / 2) (decide (s%2=1)) k:=by
  unfold Mc.stp aS
  rw[if_pos (show aB hd b (eP p s).1 (eP p s).2.1 (eP p s).2.2=0 from hw)]
  rfl
 rw[hst] at hnx
 have hle:=hnx.2.le
 have h64:=hnx.1
 have hal:atB b p≠43->(alone b ⟨false,0,p,s / 2⟩ hd (decide (s%2=1)) k).2.1.pos<=20000/\(alone b ⟨false,0,p,s / 2⟩ hd (decide (s%2=1)) k).2.1.held<64:=fun h43=>by
  obtain ⟨e1,e2,e3⟩:=hn h43
  rw[e1,e2]
  exact ⟨by omega,h64⟩
 have Ux:(alone b ⟨false,0,p,s / 2⟩ hd (decide (s%2=1)) k).2.1.pos<=20000/\(alone b ⟨false,0,p,s / 2⟩ hd (decide (s%2=1)) k).2.1.held<64:=by
  by_cases h43:atB b p=43
  ·unfold alone
   have hb:behind b p k=p+2:=by simp[behind,h43]
   simp only[h43]
   rw[if_neg (by decide),if_neg (by decide)]
   show behind b p k<=20000/\s / 2<64
   rw[hb];omega
  ·exact hal h43
 refine (QF hd b p s (s / 2) (decide (s%2=1)) k w hsh (by omega) hs hg.pair rfl hm Ux).mono ?_
 rintro e w' ⟨rfl,hb⟩
 refine ⟨?_,hb⟩
 congr 3
 have key:∀a a' c c':Int,a=a'->c=c'->[Value.int .i64 a,Value.int .i64 c]=[Value.int .i64 a',Value.int .i64 c']:=fun a a' c c' h1 h2=>by rw[h1,h2]
 apply key
 ·unfold bQ
  by_cases h43:atB b p=43
  ·simp[aG,h43]
  ·rw[if_neg h43]
   by_cases h122:atB b p=122
   ·simp[aG,h122]
   ·rw[if_neg h122,(hn h43).1]
 ·unfold bQ dn
  by_cases h43:atB b p=43
  ·simp only[aG,h43,if_true]
   by_cases h:s%2=1<;>simp[h]
  ·rw[if_neg h43]
   by_cases h122:atB b p=122
   ·rw[if_pos h122]
    have:=Gi s
    unfold dn at this
    simp only[aG,h122]
    simp
    omega
   ·rw[if_neg h122,(hn h43).2.1,(hn h43).2.2]
    generalize (aG b p (s / 2) (decide (s%2=1)) k).2.2=o
    cases o<;>simp
end
section
open Mc
structure DT (w:World)(go:Nat)(gs:Nat->Nat)(n:Nat)(F:DTb):Prop where
 out:Blk w go (n+1) (fun p=>.slice (some ⟨gs p,0,none⟩) 128 128)
 inn:∀p,p<=n->Blk w (gs p) 128 (fun s=>.bool (F p s))
 inj:∀p q,p<=n->q<=n->gs p=gs q->p=q
 ne:∀p,p<=n->gs p≠go
theorem DT.below {w w':World}{go n:Nat}{gs:Nat->Nat}{F:DTb}(h:DT w go gs n F)(hb:Below w.heap.size w w'):DT w' go gs n F:=⟨h.out.below hb,fun p hp=>(h.inn p hp).below hb,h.inj,h.ne⟩
theorem DT.set {w:World}{go n:Nat}{gs:Nat->Nat}{F:DTb}(h:DT w go gs n F)(q t:Nat)(hq:q<=n):DT (w.setCell ⟨gs q,t,none⟩ (.bool true)) go gs n (jd F q t):=by
 refine ⟨h.out.same (heap_setCell_other _ _ _ _ (fun e=>h.ne q hq e.symm)),fun p hp=>?_,h.inj,h.ne⟩
 by_cases e:p=q
 ·subst e
  refine ((h.inn p hp).set t (.bool true)).congr (fun i hi=>?_)
  unfold jd
  by_cases e2:i=t<;>simp[e2]
 ·refine ((h.inn p hp).same (heap_setCell_other _ _ _ _ (fun e2=>e (h.inj p q hp hq e2)))).congr (fun i hi=>?_)
  unfold jd
  simp[e]
def KpT (w w':World)(gs:Nat->Nat)(n:Nat):Prop:=∀B,(∀p,p<=n->B<=gs p)->B<=w.heap.size->Below B w w'
theorem KpT.refl (w:World)(gs:Nat->Nat)(n:Nat):KpT w w gs n:=fun B _ _=>Below.refl _ _
theorem KpT.below {w w' w'':World}{gs:Nat->Nat}{n:Nat}(h:KpT w w' gs n)(hb:Below w'.heap.size w' w''):KpT w w'' gs n:=fun B h1 h2=>(h B h1 h2).trans (hb.mono (by have:=(h B h1 h2).size;omega))
theorem KpT.set {w w':World}{gs:Nat->Nat}{n q:Nat}(h:KpT w w' gs n)(hq:q<=n)(t:Nat)(v:Value):KpT w (w'.setCell ⟨gs q,t,none⟩ v) gs n:=fun B h1 h2=>(h B h1 h2).setCell (h1 q hq) v
theorem KpT.alloc {w w':World}{gs:Nat->Nat}{n:Nat}(h:KpT w w' gs n)(o:Obj):KpT w (w'.alloc o) gs n:=h.below (aD _ _)
theorem KpT.trans {w w' w'':World}{gs:Nat->Nat}{n:Nat}(h:KpT w w' gs n)(h':KpT w' w'' gs n):KpT w w'' gs n:=fun B h1 h2=>(h B h1 h2).trans (h' B h1 (by have:=(h B h1 h2).size;omega))
structure SwM (w W:World)(hd:Bool)(b:List UInt8)(go:Nat)(gs:Nat->Nat)(F0 F:DTb)(any:Bool)(p s k:Nat):Prop where
 dt:DT W go gs b.length F
 it:Row W w.heap.size #[.bool hd,.string (Wd.mkS b)] 37
 kp:KpT w W gs b.length
 sw:SwI hd b F0 F any p s k
 hi:∀p,p<=b.length->gs p<w.heap.size
theorem SwM.below {w W W':World}{hd:Bool}{b:List UInt8}{go:Nat}{gs:Nat->Nat}{F0 F:DTb}{any:Bool}{p s k:Nat}(h:SwM w W hd b go gs F0 F any p s k)(hb:Below W.heap.size W W'):SwM w W' hd b go gs F0 F any p s k:=⟨h.dt.below hb,h.it.below hb,h.kp.below hb,h.sw,h.hi⟩
theorem SwM.to {w W:World}{hd:Bool}{b:List UInt8}{go:Nat}{gs:Nat->Nat}{F0 F:DTb}{any:Bool}{p s k p' s' k':Nat}(h:SwM w W hd b go gs F0 F any p s k)(h':SwI hd b F0 F any p' s' k'):SwM w W hd b go gs F0 F any p' s' k':=⟨h.dt,h.it,h.kp,h',h.hi⟩
theorem SwM.set {w W:World}{hd:Bool}{b:List UInt8}{go:Nat}{gs:Nat->Nat}{F0 F:DTb}{any:Bool}{p s k p' s' k' q t:Nat}(h:SwM w W hd b go gs F0 F any p s k)(hq:q<=b.length)(h':SwI hd b F0 (jd F q t) true p' s' k'):SwM w (W.setCell ⟨gs q,t,none⟩ (.bool true)) hd b go gs F0 (jd F q t) true p' s' k':=⟨h.dt.set q t hq,h.it.aA (by have:=h.hi q hq;omega) _ _,h.kp.set hq _ _,h',h.hi⟩
theorem En (hd:Bool)(b:List UInt8)(w:World)(go cap:Nat)(gs:Nat->Nat)(F0:DTb)(hg:GB b)(hdt:DT w go gs b.length F0)(hsub:∀a c,F0 a c=true->InD hd b a c) :
  Calls Tryz.prog 96 #[.agg #[.bool hd,.string (Wd.mkS b)],.slice (some ⟨go,0,none⟩) (b.length+1) cap] w fun e w'=>∃F any,e=.returned (.bool any)/\DT w' go gs b.length F/\SwI hd b F0 F any b.length 0 0/\KpT w w' gs b.length:=by
 have HG:=hide hg
 have hlen:b.length<=300:=hg.short
 have HM0:Hid (SwM w (w.alloc (.cells #[.bool hd,.string (Wd.mkS b)] 37)) hd b go gs F0 F0 false 0 0 0):=hide ⟨hdt.below (aD _ _),Row.new _ _ _,(KpT.refl w gs _).alloc _,SwI.beg hsub,fun p hp=>(hdt.inn p hp).lt⟩
 have AWR:=hide (fun p s W (hp:p<=300) (hs:s<128)=>Em hd b p s W hlen (by omega) hs hg.pair)
 have AFO:=hide (fun p s k W (hs:s<128) (hpl:Pl b p) (hp:p<b.length) (hw:wrD hd b p s=0)=>KS hd b p s k W hg hs hpl hp hw)
 have hbs:(Wd.mkS b).size=b.length:=Wd.bN b
 clear hg hdt hsub
 go_enter Tryz.func96,Tryz.ntmps96
 go_wp2
 generalize w.alloc (.cells #[.bool hd,.string (Wd.mkS b)] 37)=W0 at *
 go_loopw [5,6] (fun a c wr=>∃(p:Nat) (F:DTb) (any:Bool),p<=b.length/\a=.bool any/\c=.int .i64 p/\SwM w wr hd b go gs F0 F any p 0 0) (fun _ c _=>b.length-(intOf c).toNat)
 case atStart=>exact ⟨0,F0,false,by omega,rfl,rfl,HM0.out⟩
 case round =>
  clear HM0
  obtain ⟨p,F,any,hp,rfl,rfl,hm⟩:=hrel
  have HM:=hide hm
  clear hm
  have y1:wr.cell? ⟨w.heap.size,1,none⟩=some (.string (Wd.mkS b)):=HM.out.it.cell 1 rfl
  have hpI:(p:Int)<=300:=by omega
  by_cases hpt:p<b.length
  ·go_wp2
   go_loopw [5,7] (fun a c wr=>∃(s:Nat) (F:DTb) (any:Bool),s<=128/\a=.bool any/\c=.int .i64 s/\SwM w wr hd b go gs F0 F any p s 0) (fun _ c _=>128-(intOf c).toNat)
   case atStart=>exact ⟨0,F,any,by omega,rfl,rfl,HM.out⟩
   case round =>
    clear HM y1
    obtain ⟨s,F,any,hs,rfl,rfl,hm⟩:=hrel
    have HM:=hide hm
    clear hm
    have hsI:(s:Int)<=128:=by omega
    by_cases hst:s<128
    ·have z0:wr.cell? ⟨go,p,none⟩=some (.slice (some ⟨gs p,0,none⟩) 128 128):=HM.out.dt.out.cell p (by omega)
     have z1:wr.cell? ⟨gs p,s,none⟩=some (.bool (F p s)):=(HM.out.dt.inn p (by omega)).cell s hst
     have hp0:(0:Int)<=(p:Int):=by omega
     have hs0:(0:Int)<=(s:Int):=by omega
     have x0:wr.cell? ⟨w.heap.size,0,none⟩=some (.bool hd):=HM.out.it.cell 0 rfl
     have x1:wr.cell? ⟨w.heap.size,1,none⟩=some (.string (Wd.mkS b)):=HM.out.it.cell 1 rfl
     obtain ⟨o,ho⟩:∃o,F p s=o:=⟨_,rfl⟩
     rw[ho] at z1
     have HO:=hide ho
     clear ho
     cases o
     ·go_wp2
      go_round
      case measure=>simp[intOf];omega
      case rel=>exact ⟨s+1,F,any,by omega,rfl,by go_num,HM.out.to (HM.out.sw.pass (Or.inl HO.out))⟩
     ·obtain ⟨v,hv⟩:∃v,wrD hd b p s=v:=⟨_,rfl⟩
      have AW:=hide (fun W=>AWR.out p s W (by omega) hst)
      rw[hv] at AW
      have HV:=hide hv
      clear hv
      have HPL:=hide ((HM.out.sw.inS HO.out).pl HG.out)
      by_cases hv0:v=0
      ·subst hv0
       go_wp2_with (first|(go_at_call 66;refine (AW.out _).mono ?_;rintro e w1 ⟨rfl,hb1⟩;have HM1:=hide (HM.out.below hb1);clear hb1))
       go_loopw [5,9] (fun a c wr=>∃(k:Nat) (F:DTb) (any:Bool),k<=2/\a=.bool any/\c=.int .i64 k/\SwM w wr hd b go gs F0 F any p s k/\F p s=true) (fun _ c _=>2-(intOf c).toNat)
       case atStart=>exact ⟨0,F,any,by omega,rfl,rfl,HM1.out,HO.out⟩
       case round =>
        clear HM1 HM z0 z1 x0 x1 HO
        obtain ⟨k,F,any,hk,rfl,rfl,hm,ho⟩:=hrel
        have HM:=hide hm
        have HO:=hide ho
        clear hm ho
        have x0:wr.cell? ⟨w.heap.size,0,none⟩=some (.bool hd):=HM.out.it.cell 0 rfl
        have x1:wr.cell? ⟨w.heap.size,1,none⟩=some (.string (Wd.mkS b)):=HM.out.it.cell 1 rfl
        by_cases hkt:k<2
        ·obtain ⟨kb,hkb⟩:∃kb:Bool,cond kb 1 0=k:=by
          by_cases e:k=0
          ·exact ⟨false,e.symm⟩
          ·exact ⟨true,by show 1=k;omega⟩
         have hin:=(HM.out.sw.inS HO.out).fol HG.out HV.out kb
         have hq:=hin.le HG.out
         have ht:=hin.1
         have AF:=hide (fun W=>AFO.out p s kb W hst HPL.out hpt HV.out)
         have HOLD:=hide (fun h=>(hkb ▸ HM.out.sw:SwI hd b F0 F any p s (cond kb 1 0)).old (j:=kb) h)
         have GV:=hide (fun h=>(hkb ▸ HM.out.sw:SwI hd b F0 F any p s (cond kb 1 0)).new (j:=kb) HG.out HO.out HV.out h)
         have HQ:Hid (∀W,DT W go gs b.length F->W.cell? ⟨go,(bQ b p s kb).1,none⟩=some (.slice (some ⟨gs (bQ b p s kb).1,0,none⟩) 128 128)/\W.cell? ⟨gs (bQ b p s kb).1,(bQ b p s kb).2,none⟩=some (.bool (F (bQ b p s kb).1 (bQ b p s kb).2))/\W.frozen? ⟨gs (bQ b p s kb).1,(bQ b p s kb).2,none⟩=false):=hide (fun W h=>⟨h.out.cell _ (by omega),(h.inn _ hq).cell _ ht,(h.inn _ hq).frozen _⟩)
         clear hin
         generalize (bQ b p s kb).1=q at *
         generalize (bQ b p s kb).2=t at *
         have hqI:(q:Int)<=300:=by omega
         have hq0:(0:Int)<=(q:Int):=by omega
         have ht0:(0:Int)<=(t:Int):=by omega
         have htI:(t:Int)<128:=by omega
         obtain ⟨o,ho⟩:∃o,F q t=o:=⟨_,rfl⟩
         rw[ho] at HQ HOLD GV
         clear ho
         subst hkb
         cases kb<;>cases o<;>(
          go_wp2_with (first|(go_at_call 123;refine (AF.out _).mono ?_;rintro e w2 ⟨rfl,hb2⟩;have HM2:=hide (HM.out.below hb2);obtain ⟨q1,q2,q3⟩:=HQ.out _ HM2.out.dt;clear hb2))
          go_round
          case measure=>simp[intOf]
          case rel =>
           first
           | exact ⟨_,F,any,by simp,rfl,by go_num,HM2.out.to (HOLD.out (by first|rfl|trivial)),HO.out⟩
           | exact ⟨_,jd F q t,true,by simp,rfl,by go_num,HM2.out.set hq (GV.out (by first|rfl|trivial)),by unfold jd;split;rfl;exact HO.out⟩)
        ·have e:k=2:=by omega
         subst e
         go_wp2
         go_round
         case measure=>simp[intOf];omega
         case rel=>exact ⟨s+1,F,any,by omega,rfl,by go_num,HM.out.to HM.out.sw.next⟩
      ·have HVN:=hide hv0
       go_wp2_with (first|(go_at_call 66;refine (AW.out _).mono ?_;rintro e w1 ⟨rfl,hb1⟩;have HM1:=hide (HM.out.below hb1);clear hb1))
       go_round
       case measure=>simp[intOf];omega
       case rel=>exact ⟨s+1,F,any,by omega,rfl,by go_num,HM1.out.to (HM1.out.sw.pass (Or.inr (by rw[HV.out];exact HVN.out)))⟩
    ·have e:s=128:=by omega
     subst e
     go_wp2
     go_round
     case measure=>simp[intOf];omega
     case rel=>exact ⟨p+1,F,any,by omega,rfl,by go_num,HM.out.to HM.out.sw.row⟩
  ·have e:p=b.length:=by omega
   subst e
   go_wp2
   go_ret
   exact ⟨F,any,rfl,HM.out.dt,HM.out.sw,HM.out.kp⟩
end
end Go.Proofs.YtecmfdkhcffpmaaGreat
