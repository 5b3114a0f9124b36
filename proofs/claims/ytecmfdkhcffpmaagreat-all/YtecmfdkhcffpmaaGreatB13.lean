/- MacB, PureM2, MacC. -/
import Derived.Test.YtecmfdkhcffpmaaGreatB12
import Derived.Test.YtecmfdkhcffpmaaGreatB06
import Derived.Test.YtecmfdkhcffpmaaGreatB02
import Derived.Deep.MidRow
namespace Go.Proofs.YtecmfdkhcffpmaaGreat
open Go.RowKit
set_option linter.unusedVariables false
set_option linter.unusedSimpArgs false
set_option linter.unusedSectionVars false
set_option maxHeartbeats 8000000
set_option maxRecDepth 100000
theorem bW {a b:Bool}(h:a=b):Ending.returned (.bool a)=.returned (.bool b):=by rw[h]
theorem zF (s:ByteArray)(p:Nat)(h:p<s.size):Mc.atB s.data.toList p=((s[p].toNat:Nat):Int):=by
 rw[Mc.atB,Wd.aI,if_pos h,Wd.dz s p h]
theorem zl (s:ByteArray)(p:Nat)(h:¬p<s.size):Mc.atB s.data.toList p=101:=by
 rw[Mc.atB,Wd.aI,if_neg h]
theorem lV (s:ByteArray)(p:Nat)(w:World)(hs:s.size<=10000)(hp:p<=20000) :
  Calls Tryz.prog 68 #[.string s,.int .i64 p] w fun e w'=>e=.returned (.int .u8 (Mc.atB s.data.toList p))/\w'=w:=by
 by_cases h:p<s.size
 ·rw[zF s p h]
  go_enter Tryz.func68,Tryz.ntmps68
  go_wp2
  go_ret
  exact ⟨rfl,rfl⟩
 ·rw[zl s p h]
  go_enter Tryz.func68,Tryz.ntmps68
  go_wp2
  go_ret
  exact ⟨rfl,rfl⟩
theorem Dl (s:ByteArray)(p:Nat)(w:World)(hs:s.size<=10000)(hp:p<=20000)(hv:p+1<s.size->48<=Wd.at_ s.data.toList (p+1)) :
  Calls Tryz.prog 69 #[.string s,.int .i64 p] w fun e w'=>e=.returned (.int .i64 (Mc.num s.data.toList p))/\w'=w:=by
 by_cases h:p+1<s.size
 ·have b1:=Wd.iD s.data.toList (p+1)
  have hv':=hv h
  have HB:=Wd.dz s (p+1) h
  rw[<-HB] at b1 hv'
  by_cases hc:97<=((s[p+1].toNat:Nat):Int)
  ·have e:Mc.num s.data.toList p=((s[p+1].toNat:Nat):Int)-97:=by
    rw[Mc.num,Wd.aI,if_pos h,<-HB,if_pos hc]
   rw[e]
   clear e HB hv
   go_enter Tryz.func69,Tryz.ntmps69
   go_wp2
   go_ret
   exact ⟨rfl,rfl⟩
  ·have e:Mc.num s.data.toList p=((s[p+1].toNat:Nat):Int)-48:=by
    rw[Mc.num,Wd.aI,if_pos h,<-HB,if_neg hc]
   rw[e]
   clear e HB hv
   go_enter Tryz.func69,Tryz.ntmps69
   go_wp2
   go_ret
   exact ⟨rfl,rfl⟩
 ·have e:Mc.num s.data.toList p=0:=by rw[Mc.num,Wd.aI,if_neg h]
  rw[e]
  clear e hv
  go_enter Tryz.func69,Tryz.ntmps69
  go_wp2
  go_ret
  exact ⟨rfl,rfl⟩
theorem uY (n:Nat)(w:World)(hn:n<=20) :
  Calls Tryz.prog 97 #[.int .i64 n] w fun e w'=>e=.returned (.int .i64 ((2 ^ n:Nat):Int))/\w'=w:=by
 go_enter Tryz.func97,Tryz.ntmps97
 go_wp2
 go_loop [3,4] (fun a b=>∃(k:Nat) (v:Nat),k<=n/\v=2 ^ k/\v<=1048576/\a=.int .i64 v/\b=.int .i64 k) (fun _ b=>n-(intOf b).toNat)
 case atStart=>exact ⟨0,1,by omega,rfl,by omega,rfl,rfl⟩
 case round =>
  obtain ⟨k,v,hk,hv,hb,rfl,rfl⟩:=hrel
  have HV:=hide hv
  clear hv
  by_cases hlt:k<n
  ·go_wp2
   go_round
   case rel =>
    refine ⟨k+1,2*v,by omega,by rw[HV.out,Nat.pow_succ,Nat.mul_comm],?_,by go_num,by go_num⟩
    have:2 ^ (k+1)<=2 ^ 20:=Nat.pow_le_pow_right (by omega) (by omega)
    rw[Nat.pow_succ,<-HV.out] at this;omega
   case measure=>simp[intOf]<;>omega
  ·go_wp2
   go_ret
   obtain rfl:k=n:=by omega
   exact ⟨aO (by rw[HV.out];simp),rfl⟩
theorem mE (held l:Nat)(w:World)(hh:held<=1000000)(hl:l<=20) :
  Calls Tryz.prog 70 #[.int .i64 held,.int .i64 l] w fun e w'=>e=.returned (.bool (Mc.holds held l))/\w'=w:=by
 have hp:1<=2 ^ l:=Nat.one_le_two_pow
 have hq:2 ^ l<=2 ^ 20:=Nat.pow_le_pow_right (by omega) hl
 have HE:Hid (Mc.holds held l=decide ((held / 2 ^ l)%2=1)):=Nat.testBit_eq_decide_div_mod_eq
 have HX:=hide (uY l w hl)
 generalize 2 ^ l=v at *
 have hv:v<=1048576:=by omega
 have hqe:(held:Int) / (v:Int)=((held / v:Nat):Int):=(Int.natCast_ediv held v).symm
 have hqb:held / v<=1000000:=Nat.le_trans (Nat.div_le_self _ _) hh
 generalize held / v=qn at *
 clear hq
 go_enter Tryz.func70,Tryz.ntmps70
 go_wp2_with (go_at_call 97;refine HX.out.mono ?_;rintro e w' ⟨rfl,rfl⟩)
 go_ret
 refine ⟨bW ?_,rfl⟩
 rw[HE.out]
 rw[Bool.eq_iff_iff]
 simp only[beq_iff_eq,decide_eq_true_eq]
 omega
theorem uQ (zc:Int)(hzc:zc=43\/zc=45\/zc=114\/zc=119)(s:ByteArray)(p:Nat)(w:World)(second:Bool)(hs:s.size<=10000)(hp:p<s.size)(hc:Mc.atB s.data.toList p=zc) :
  Calls Tryz.prog 122 #[.string s,.int .i64 p,.bool second] w fun e w'=>e=.returned (.int .i64 ((p+2:Nat):Int))/\w'=w:=by
 rcases hzc with rfl|rfl|rfl|rfl
 all_goals (
  have HA:=lV s p w hs (by omega)
  rw[hc] at HA
  have HAA:=hide HA
  clear HA
  clear hc
  go_enter Tryz.func122,Tryz.ntmps122
  go_wp2_with (first|(go_at_call 68;refine HAA.out.mono ?_;rintro e w' ⟨rfl,rfl⟩))
  go_ret
  exact ⟨aO (by simp),rfl⟩)
theorem LY (s:ByteArray)(p:Nat)(w:World)(second:Bool)(hs:s.size<=10000)(hp:p<s.size)(hc:Mc.atB s.data.toList p=40)(h2:second=true) :
  Calls Tryz.prog 122 #[.string s,.int .i64 p,.bool second] w fun e w'=>e=.returned (.int .i64 ((Mc.ahead s.data.toList p 124+1:Nat):Int))/\w'=w:=by
 have HA:=lV s p w hs (by omega)
 rw[hc] at HA
 have HAA:=hide HA
 clear HA
 have hab:=Mc.qj s.data.toList p 124 (by rw[Wd.aI];exact hp)
 rw[Wd.aI] at hab
 clear hc
 go_enter Tryz.func122,Tryz.ntmps122
 go_wp2_with (first|(go_at_call 68;refine HAA.out.mono ?_;rintro e w' ⟨rfl,rfl⟩)|(go_at_call 141;refine (yC s p 124 _ hs hp (by omega) (by omega)).mono ?_;rintro e w' ⟨rfl,rfl⟩))
 go_ret
 exact ⟨aO (by simp),rfl⟩
theorem Cq (zc:Int)(hzc:zc=40\/zc=91)(s:ByteArray)(p:Nat)(w:World)(second:Bool)(hs:s.size<=10000)(hp:p<s.size)(hc:Mc.atB s.data.toList p=zc)(h2:second=false) :
  Calls Tryz.prog 122 #[.string s,.int .i64 p,.bool second] w fun e w'=>e=.returned (.int .i64 ((p+1:Nat):Int))/\w'=w:=by
 rcases hzc with rfl|rfl
 all_goals (
  have HA:=lV s p w hs (by omega)
  rw[hc] at HA
  have HAA:=hide HA
  clear HA
  clear hc
  go_enter Tryz.func122,Tryz.ntmps122
  go_wp2_with (first|(go_at_call 68;refine HAA.out.mono ?_;rintro e w' ⟨rfl,rfl⟩))
  go_ret
  exact ⟨aO (by simp),rfl⟩)
theorem Km (s:ByteArray)(p:Nat)(w:World)(second:Bool)(hs:s.size<=10000)(hp:p<s.size)(hc:Mc.atB s.data.toList p=124) :
  Calls Tryz.prog 122 #[.string s,.int .i64 p,.bool second] w fun e w'=>e=.returned (.int .i64 ((Mc.ahead s.data.toList p 41+1:Nat):Int))/\w'=w:=by
 have HA:=lV s p w hs (by omega)
 rw[hc] at HA
 have HAA:=hide HA
 clear HA
 have hab:=Mc.qj s.data.toList p 41 (by rw[Wd.aI];exact hp)
 rw[Wd.aI] at hab
 clear hc
 go_enter Tryz.func122,Tryz.ntmps122
 go_wp2_with (first|(go_at_call 68;refine HAA.out.mono ?_;rintro e w' ⟨rfl,rfl⟩)|(go_at_call 141;refine (yC s p 41 _ hs hp (by omega) (by omega)).mono ?_;rintro e w' ⟨rfl,rfl⟩))
 go_ret
 exact ⟨aO (by simp),rfl⟩
theorem LZ (s:ByteArray)(p:Nat)(w:World)(second:Bool)(hs:s.size<=10000)(hp:p<s.size)(hc:Mc.atB s.data.toList p=91)(h2:second=true) :
  Calls Tryz.prog 122 #[.string s,.int .i64 p,.bool second] w fun e w'=>e=.returned (.int .i64 ((Mc.ahead s.data.toList p 93+1:Nat):Int))/\w'=w:=by
 have HA:=lV s p w hs (by omega)
 rw[hc] at HA
 have HAA:=hide HA
 clear HA
 have hab:=Mc.qj s.data.toList p 93 (by rw[Wd.aI];exact hp)
 rw[Wd.aI] at hab
 clear hc
 go_enter Tryz.func122,Tryz.ntmps122
 go_wp2_with (first|(go_at_call 68;refine HAA.out.mono ?_;rintro e w' ⟨rfl,rfl⟩)|(go_at_call 141;refine (yC s p 93 _ hs hp (by omega) (by omega)).mono ?_;rintro e w' ⟨rfl,rfl⟩))
 go_ret
 exact ⟨aO (by simp),rfl⟩
theorem L6 (s:ByteArray)(p:Nat)(w:World)(second:Bool)(hs:s.size<=10000)(hp:p<s.size)(hc:Mc.atB s.data.toList p=93) :
  Calls Tryz.prog 122 #[.string s,.int .i64 p,.bool second] w fun e w'=>e=.returned (.int .i64 ((Mc.back s.data.toList p:Nat):Int))/\w'=w:=by
 have HA:=lV s p w hs (by omega)
 rw[hc] at HA
 have HAA:=hide HA
 clear HA
 clear hc
 go_enter Tryz.func122,Tryz.ntmps122
 go_wp2_with (first|(go_at_call 68;refine HAA.out.mono ?_;rintro e w' ⟨rfl,rfl⟩)|(go_at_call 142;refine (P6 s p _ hs (by omega)).mono ?_;rintro e w' ⟨rfl,rfl⟩))
 go_ret
 exact ⟨aO (by simp),rfl⟩
theorem Cr (s:ByteArray)(p:Nat)(w:World)(second:Bool)(hs:s.size<=10000)(hp:p<=20000)(c:Int)(hc:Mc.atB s.data.toList p=c)(m43:c≠43)(m45:c≠45)(jo:c≠114)(jq:c≠119)(m40:c≠40)(mh:c≠124)(m91:c≠91)(m93:c≠93) :
  Calls Tryz.prog 122 #[.string s,.int .i64 p,.bool second] w fun e w'=>e=.returned (.int .i64 ((p+1:Nat):Int))/\w'=w:=by
 have HA:=lV s p w hs (by omega)
 rw[hc] at HA
 have HAA:=hide HA
 have b:=jG s.data.toList p
 rw[hc] at b
 clear HA hc
 have n43:(c==43)=false:=beq_eq_false_iff_ne.2 m43
 have n45:(c==45)=false:=beq_eq_false_iff_ne.2 m45
 have n114:(c==114)=false:=beq_eq_false_iff_ne.2 jo
 have n119:(c==119)=false:=beq_eq_false_iff_ne.2 jq
 have n40:(c==40)=false:=beq_eq_false_iff_ne.2 m40
 have n124:(c==124)=false:=beq_eq_false_iff_ne.2 mh
 have n91:(c==91)=false:=beq_eq_false_iff_ne.2 m91
 have n93:(c==93)=false:=beq_eq_false_iff_ne.2 m93
 clear m43 m45 jo jq m40 mh m91 m93
 go_enter Tryz.func122,Tryz.ntmps122
 go_wp2_with (first|(go_at_call 68;refine HAA.out.mono ?_;rintro e w' ⟨rfl,rfl⟩))
 go_ret
 exact ⟨aO (by simp),rfl⟩
theorem L8 (s:ByteArray)(p:Nat)(w:World)(second:Bool)(hs:s.size<=10000)(hp:p<=20000) :
  Calls Tryz.prog 122 #[.string s,.int .i64 p,.bool second] w fun e w'=>e=.returned (.int .i64 ((Mc.behind s.data.toList p second:Nat):Int))/\w'=w:=by
 unfold Mc.behind
 by_cases hlt:p<s.size
 ·by_cases c43:Mc.atB s.data.toList p=43
  ·rw[if_pos (by simp[c43])];exact uQ 43 (Or.inl rfl) s p w second hs hlt c43
  by_cases c45:Mc.atB s.data.toList p=45
  ·rw[if_pos (by simp[c45])];exact uQ 45 (Or.inr (Or.inl rfl)) s p w second hs hlt c45
  by_cases wP:Mc.atB s.data.toList p=114
  ·rw[if_pos (by simp[wP])];exact uQ 114 (Or.inr (Or.inr (Or.inl rfl))) s p w second hs hlt wP
  by_cases c119:Mc.atB s.data.toList p=119
  ·rw[if_pos (by simp[c119])];exact uQ 119 (Or.inr (Or.inr (Or.inr rfl))) s p w second hs hlt c119
  rw[if_neg (by simp[c43,c45,wP,c119])]
  by_cases c40:Mc.atB s.data.toList p=40
  ·cases second
   ·rw[if_neg (by simp),if_neg (by rw[c40];decide),if_neg (by simp),if_neg (by rw[c40];decide)];exact Cq 40 (Or.inl rfl) s p w false hs hlt c40 rfl
   ·rw[if_pos ⟨c40,rfl⟩];exact LY s p w true hs hlt c40 rfl
  rw[if_neg (fun h=>c40 h.1)]
  by_cases c124:Mc.atB s.data.toList p=124
  ·rw[if_pos c124];exact Km s p w second hs hlt c124
  rw[if_neg c124]
  by_cases c91:Mc.atB s.data.toList p=91
  ·cases second
   ·rw[if_neg (by simp),if_neg (by rw[c91];decide)];exact Cq 91 (Or.inr rfl) s p w false hs hlt c91 rfl
   ·rw[if_pos ⟨c91,rfl⟩];exact LZ s p w true hs hlt c91 rfl
  rw[if_neg (fun h=>c91 h.1)]
  by_cases c93:Mc.atB s.data.toList p=93
  ·rw[if_pos c93];exact L6 s p w second hs hlt c93
  rw[if_neg c93]
  exact Cr s p w second hs hp _ rfl c43 c45 wP c119 c40 c124 c91 c93
 ·have e:=zl s p hlt
  rw[if_neg (by rw[e];decide),if_neg (by rw[e];rintro ⟨h,_⟩;cases h),if_neg (by rw[e];decide),if_neg (by rw[e];rintro ⟨h,_⟩;cases h),if_neg (by rw[e];decide)]
  exact Cr s p w second hs hp 101 e (by decide) (by decide) (by decide) (by decide) (by decide) (by decide) (by decide) (by decide)
section
namespace Mc
open Wd
structure Fr where
 there:Bool
 item:Nat
 pos:Nat
 held:Nat
def aH:Fr:=⟨false,0,0,0⟩
structure Cp where
 t:Fr
 h:Fr
 off:Bool
structure Ma where
 cp:Nat->Cp
 rd:Nat->Bool
 pl:Nat->Nat
def bU:Cp:=⟨aH,aH,false⟩
def ah (its:List It)(i:Nat):List UInt8:=(its.getD i ⟨false,[]⟩).body
def isH (its:List It)(i:Nat):Bool:=(its.getD i ⟨false,[]⟩).handler
def aM (its:List It):Ma:=⟨fun _=>bU,fun i=>!isH its i,fun _=>0⟩
def works (S:Ma)(c:Nat):Fr:=if (S.cp c).h.there=true then (S.cp c).h else (S.cp c).t
def stands (its:List It)(f:Fr):Int:=if f.there=true then atB (ah its f.item) f.pos else 95
def aY (x:Cp)(l:Nat):Bool:=holds x.t.held l||holds x.h.held l
def dY (S:Ma)(l:Nat):Nat->Nat->Option Nat
 | _,0=>none
 | k,m+1=>if aY (S.cp k) l=true then some k else dY S l (k+1) m
def holder (S:Ma)(n l:Nat):Option Nat:=dY S l 0 n
def toI:Option Nat->Int
 | none=>-1
 | some k=>(k:Int)
def lW (its:List It)(f:Fr):Option Nat:=if stands its f=43 then some (num (ah its f.item) f.pos).toNat else none
def iV (its:List It)(S:Ma)(n c:Nat):Nat->Nat->Nat->Bool
 | _,0,_=>false
 | k,m+1,l=>match holder S n l with
  | none=>false
  | some d=>if d=c then decide (0<k) else match lW its (works S d) with
   | none=>false
   | some l'=>iV its S n c (k+1) m l'
def ring (its:List It)(S:Ma)(n c l:Nat):Bool:=iV its S n c 0 (n+1) l
def fP (its:List It)(S:Ma)(c:Nat)(x own:Int)(d:Nat):Bool :=
 let g:=works S d
 let s:=stands its g
 (decide (d≠c)&&(decide (s=114)||decide (s=119)))&&(decide (x=num (ah its g.item) g.pos)&&(decide (own=119)||decide (s=119)))
def dO (its:List It)(S:Ma)(c:Nat)(x own:Int):Nat->Nat->Bool
 | _,0=>false
 | d,m+1=>if fP its S c x own d=true then true else dO its S c x own (d+1) m
def clash (its:List It)(S:Ma)(n c:Nat)(f:Fr):Bool:=dO its S c (num (ah its f.item) f.pos) (atB (ah its f.item) f.pos) 0 n
def av (S:Ma)(c:Nat)(x:Cp):Ma:={S with cp:=fun d=>if d=c then x else S.cp d}
def ji (x:Cp)(f:Fr):Cp:=if x.h.there=true then {x with h:=f} else {x with t:=f}
def put (S:Ma)(c:Nat)(f:Fr):Ma:=av S c (ji (S.cp c) f)
def aQ (S:Ma)(i:Nat)(b:Bool):Ma:={S with rd:=fun j=>if j=i then b else S.rd j}
def bA (S:Ma)(i p:Nat):Ma:={S with pl:=fun j=>if j=i then p else S.pl j}
def leaves (S:Ma)(c p:Nat):Ma :=
 av (bA (aQ S (S.cp c).t.item true) (S.cp c).t.item p) c {(S.cp c) with t:=aH}
def takes (its:List It)(S:Ma)(n c:Nat)(f:Fr)(l:Nat):Int×Fr :=
 match holder S n l with
 | some d=>if d=c then (68,f) else if ring its S n c l=true then (87,f) else (58,f)
 | none=>(43,{f with held:=f.held+2 ^ l,pos:=f.pos+2})
def alone (b:List UInt8)(f:Fr)(handler off second:Bool):Int×Fr×Bool :=
 if atB b f.pos=45 then
  (if holds f.held (num b f.pos).toNat=true then (45,{f with held:=f.held-2 ^ (num b f.pos).toNat,pos:=behind b f.pos second},off) else (85,f,off))
 else if atB b f.pos=60\/atB b f.pos=62 then
  (if handler=true then (73,f,off) else (atB b f.pos,{f with pos:=behind b f.pos second},decide (atB b f.pos=60)))
 else (atB b f.pos,{f with pos:=behind b f.pos second},off)
def jR (S:Ma)(c:Nat)(o:Bool):Ma:=av S c {(S.cp c) with off:=o}
def lone (its:List It)(S:Ma)(c:Nat)(second:Bool):Int×Ma :=
 let f:=works S c
 let r:=alone (ah its f.item) f (S.cp c).h.there (S.cp c).off second
 (r.1,jR (put S c r.2.1) c r.2.2)
def step (its:List It)(S:Ma)(n c:Nat)(second:Bool):Int×Ma :=
 let f:=works S c
 let hd:=(S.cp c).h.there
 let off:=(S.cp c).off&&!hd
 let b:=ah its f.item
 if f.there=false then (95,S)
 else if atB b f.pos=101 then (if 0<f.held\/off=true then (69,S) else (101,put S c aH))
 else if atB b f.pos=43 then ((takes its S n c f (num b f.pos).toNat).1,put S c (takes its S n c f (num b f.pos).toNat).2)
 else if atB b f.pos=122 then (if hd=true\/0<f.held\/off=true then (83,S) else (122,leaves S c (f.pos+1)))
 else if (atB b f.pos=114\/atB b f.pos=119)/\clash its S n c f=true then (82,S)
 else lone its S c second
def comes (its:List It)(S:Ma)(c i:Nat):Int×Ma :=
 if its.length<=i\/(S.cp c).h.there=true then (95,S)
 else if isH its i=true then (if (S.cp c).off=true then (95,S) else (104,av S c {(S.cp c) with h:=⟨true,i,0,0⟩}))
 else if (S.cp c).t.there=true\/S.rd i=false then (95,S)
 else (116,av (aQ S i false) c {(S.cp c) with t:=⟨true,i,S.pl i,0⟩})
def command (its:List It)(S:Ma)(n c:Nat)(what:Int):Int×Ma :=
 if what=46\/what=44 then step its S n c (decide (what=44))
 else if what≠112 then comes its S c (what-48).toNat
 else if (S.cp c).t.there=false\/(S.cp c).h.there=true\/0<(S.cp c).t.held\/(S.cp c).off=true then (95,S)
 else (112,leaves S c (S.cp c).t.pos)
def bad (t:Int):Bool:=t==68||t==85||t==83||t==69||t==73||t==87||t==82
def gJ (x:Int):Bool:=x==46||x==44||x==112||(decide (48<=x)&&decide (x<=55))
def aX (n:Int):List UInt8->Bool
 | []=>true
 | [_]=>false
 | a::o::r=>decide (48<=bt a)&&decide (bt a-48<n)&&gJ (bt o)&&aX n r
structure gD (its:List It)(hd:Bool)(f:Fr):Prop where
 item:f.there=true->f.item<its.length
 kind:f.there=true->isH its f.item=hd
 pos:f.there=true->f.pos<=(ah its f.item).length+1
 held:f.held<64
 none:f.there=false->f=aH
structure Inv (its:List It)(n:Nat)(S:Ma):Prop where
 t:∀c,c<n->gD its false (S.cp c).t
 h:∀c,c<n->gD its true (S.cp c).h
 off:∀c,c<n->(S.cp c).off=true->(S.cp c).t.there=true
 pl:∀i,i<its.length->S.pl i<=(ah its i).length+1
def bG (b:List UInt8):Prop:=∀p,p<b.length->(at_ b p=43\/at_ b p=45->p+1<b.length/\97<=at_ b (p+1)/\at_ b (p+1)<=102)/\(at_ b p=114\/at_ b p=119->p+1<b.length/\48<=at_ b (p+1)/\at_ b (p+1)<=51)
structure bf (its:List It):Prop where
 len:its.length<=240
 body:∀i,i<its.length->(ah its i).length<=10000
 pair:∀i,i<its.length->bG (ah its i)
end Mc
end
section
open Mc
def Blk (w:World)(g n:Nat)(f:Nat->Value):Prop:=∃cs t,w.heap[g]?=some (.cells cs t (0,0))/\∀i,i<n->cs[i]?=some (f i)
theorem Blk.lt {w:World}{g n:Nat}{f:Nat->Value}(h:Blk w g n f):g<w.heap.size:=by
 obtain ⟨cs,t,h1,h2⟩:=h;exact bB h1
theorem Blk.cell {w:World}{g n:Nat}{f:Nat->Value}(h:Blk w g n f)(i:Nat)(hi:i<n):w.cell? ⟨g,i,none⟩=some (f i):=by
 obtain ⟨cs,t,h1,h2⟩:=h;exact aj h1 (h2 i hi)
theorem Blk.frozen {w:World}{g n:Nat}{f:Nat->Value}(h:Blk w g n f)(i:Nat):w.frozen? ⟨g,i,none⟩=false:=by
 obtain ⟨cs,t,h1,h2⟩:=h;exact frozen_of_row w g i cs t h1
theorem Blk.same {w w':World}{g n:Nat}{f:Nat->Value}(h:Blk w g n f)(he:w'.heap[g]?=w.heap[g]?):Blk w' g n f:=by
 obtain ⟨cs,t,h1,h2⟩:=h;exact ⟨cs,t,he.trans h1,h2⟩
theorem Blk.below {w w':World}{g n:Nat}{f:Nat->Value}(h:Blk w g n f)(hb:Below w.heap.size w w'):Blk w' g n f:=h.same (hb.block g h.lt)
theorem Blk.alloc {w:World}{g n:Nat}{f:Nat->Value}(h:Blk w g n f)(o:Obj):Blk (w.alloc o) g n f:=h.same (Below.heap_alloc w o g h.lt)
theorem Blk.congr {w:World}{g n:Nat}{f f':Nat->Value}(h:Blk w g n f)(he:∀i,i<n->f i=f' i):Blk w g n f':=by
 obtain ⟨cs,t,h1,h2⟩:=h;exact ⟨cs,t,h1,fun i hi=>by rw[h2 i hi,he i hi]⟩
theorem Blk.set {w:World}{g n:Nat}{f:Nat->Value}(h:Blk w g n f)(i:Nat)(v:Value):Blk (w.setCell ⟨g,i,none⟩ v) g n (fun j=>if j=i then v else f j):=by
 obtain ⟨cs,t,h1,h2⟩:=h
 refine ⟨_,t,heap_setCell_same _ _ _ _ _ _ h1,fun j hj=>?_⟩
 have h3:=h2 j hj
 have hlt:j<cs.size:=(Array.getElem?_eq_some_iff.1 h3).1
 by_cases e:j=i
 ·subst e;simp[Array.getElem?_setIfInBounds,hlt]
 ·simp[Array.getElem?_setIfInBounds,e,Ne.symm e,h3]
theorem heap_setCells_other (g:Nat):∀(vs:List Value) (o:Nat) (w:World) (k:Nat),k≠g->(w.setCells g o vs).heap[k]?=w.heap[k]?
 | [],_,_,_,_=>rfl
 | v::r,o,w,k,h=>by
  rw[World.setCells,heap_setCells_other g r (o+1) _ k h]
  exact heap_setCell_other w ⟨g,o,none⟩ k v h
theorem Below.setCells {B:Nat}{a:World}(g:Nat)(hg:B<=g):∀(vs:List Value) (o:Nat) (w:World),Below B a w->Below B a (w.setCells g o vs)
 | [],_,_,h=>h
 | v::r,o,w,h=>by
  rw[World.setCells];exact Below.setCells g hg r (o+1) _ (h.setCell (p:=⟨g,o,none⟩) hg v)
theorem Blk.sets {g n:Nat}:∀(vs:List Value) (o:Nat) (w:World) (f:Nat->Value),Blk w g n f->Blk (w.setCells g o vs) g n (fun j=>if o<=j then (vs[j-o]?).getD (f j) else f j)
 | [],o,w,f,h=>by
  refine h.congr fun i hi=>?_
  simp
 | v::r,o,w,f,h=>by
  rw[World.setCells]
  refine (Blk.sets r (o+1) _ _ (h.set o v)).congr fun i hi=>?_
  by_cases e:i=o
  ·subst e;rw[if_neg (by omega)];simp
  ·by_cases e2:o<=i
   ·have e3:i-o=(i-(o+1))+1:=by omega
    rw[if_pos (by omega),if_pos e2,if_neg e,e3,List.getElem?_cons_succ]
   ·rw[if_neg (by omega),if_neg e2,if_neg e]
theorem Blk.range {w:World}{g n:Nat}{f:Nat->Value}(h:Blk w g n f)(o:Nat)(vs:List Value)(hn:o+vs.length<=n)(hv:∀j (hj:j<vs.length),vs[j]=f (o+j)):w.rangeAt g o vs:=by
 intro j v hj
 obtain ⟨hl,rfl⟩:=List.getElem?_eq_some_iff.1 hj
 rw[h.cell (o+j) (by omega),hv j hl]
theorem Blk.there {w:World}{g n:Nat}{f:Nat->Value}(h:Blk w g n f)(o m:Nat)(hn:o+m<=n):w.there g o m:=fun j hj=>⟨by rw[h.cell (o+j) (by omega)];rfl,h.frozen _⟩
def frV (f:Fr):List Value:=[.bool f.there,.int .i64 (f.item:Int),.int .i64 (f.pos:Int),.int .i64 (f.held:Int)]
def cpF (x:Cp):Nat->Value
 | 0=>.bool x.t.there
 | 1=>.int .i64 (x.t.item:Int)
 | 2=>.int .i64 (x.t.pos:Int)
 | 3=>.int .i64 (x.t.held:Int)
 | 4=>.bool x.h.there
 | 5=>.int .i64 (x.h.item:Int)
 | 6=>.int .i64 (x.h.pos:Int)
 | 7=>.int .i64 (x.h.held:Int)
 | _=>.bool x.off
def iE (S:Ma)(i:Nat):Value:=cpF (S.cp (i / 9)) (i%9)
def itF (its:List Wd.It)(i:Nat):Value:=if i%2=0 then .bool (isH its (i / 2)) else .string (Wd.mkS (ah its (i / 2)))
theorem vP (S:Ma)(c j:Nat)(hj:j<9):iE S (c*9+j)=cpF (S.cp c) j:=by
 unfold iE
 rw[show (c*9+j) / 9=c by omega,show (c*9+j)%9=j by omega]
structure Ad where
 ai:Option Addr
 ci:Nat
 g1:Nat
 c1:Nat
 a2:Option Addr
 c2:Nat
 g3:Nat
 c3:Nat
structure DM (w:World)(N b:Nat)(A:Ad)(its:List Wd.It)(n:Nat)(S:Ma):Prop where
 root:Blk w b 4 (fun i=>if i=0 then .slice A.ai its.length A.ci else if i=1 then .slice (some ⟨A.g1,0,none⟩) n A.c1 else if i=2 then .slice A.a2 its.length A.c2 else .slice (some ⟨A.g3,0,none⟩) its.length A.c3)
 items:0<its.length->∃g,A.ai=some ⟨g,0,none⟩/\Blk w g (its.length*2) (itF its)/\g≠b/\g≠A.g1/\g≠A.g3
 au:Blk w A.g1 (n*9) (iE S)
 ready:0<its.length->∃g,A.a2=some ⟨g,0,none⟩/\Blk w g its.length (fun i=>.bool (S.rd i))/\g≠b/\g≠A.g1/\g≠A.g3/\N<=g/\A.ai≠some ⟨g,0,none⟩
 at_:Blk w A.g3 its.length (fun i=>.int .i64 (S.pl i:Int))
 ne:b≠A.g1/\b≠A.g3/\A.g1≠A.g3/\N<=b/\N<=A.g1/\N<=A.g3
 caps:its.length<=A.ci/\A.ci<=maxLen/\n<=A.c1/\A.c1<=maxLen/\its.length<=A.c2/\A.c2<=maxLen/\its.length<=A.c3/\A.c3<=maxLen
 a2:A.a2≠some ⟨b,0,none⟩/\A.a2≠some ⟨A.g1,0,none⟩/\A.a2≠some ⟨A.g3,0,none⟩/\∀g,A.a2=some ⟨g,0,none⟩->N<=g
theorem DM.below {w w':World}{N b:Nat}{A:Ad}{its:List Wd.It}{n:Nat}{S:Ma}(h:DM w N b A its n S)(hb:Below w.heap.size w w'):DM w' N b A its n S :=
 ⟨h.root.below hb,fun hl=>(h.items hl).imp fun g hg=>⟨hg.1,hg.2.1.below hb,hg.2.2⟩,h.au.below hb,fun hl=>(h.ready hl).imp fun g hg=>⟨hg.1,hg.2.1.below hb,hg.2.2⟩,h.at_.below hb,h.ne,h.caps,h.a2⟩
theorem DM.alloc {w:World}{N b:Nat}{A:Ad}{its:List Wd.It}{n:Nat}{S:Ma}(h:DM w N b A its n S)(o:Obj):DM (w.alloc o) N b A its n S:=h.below ((Below.refl _ _).alloc (Nat.le_refl _) o)
theorem DM.aC {w:World}{N b:Nat}{A:Ad}{its:List Wd.It}{n:Nat}{S:Ma}(h:DM w N b A its n S)(c j:Nat)(hc:c<n)(hj:j<9):w.cell? ⟨A.g1,c*9+j,none⟩=some (cpF (S.cp c) j):=by
 rw[h.au.cell (c*9+j) (by omega),vP S c j hj]
theorem DM.wD {w:World}{N b:Nat}{A:Ad}{its:List Wd.It}{n:Nat}{S:Ma}(h:DM w N b A its n S)(c:Nat)(hc:c<n):w.rangeAt A.g1 (c*9) (frV (S.cp c).t):=by
 refine h.au.range _ _ (by simp[frV];omega) fun j hj=>?_
 simp[frV] at hj
 rw[vP S c j (by omega)]
 rcases j with _|_|_|_|j<;>first|rfl|omega
theorem DM.qD {w:World}{N b:Nat}{A:Ad}{its:List Wd.It}{n:Nat}{S:Ma}(h:DM w N b A its n S)(c:Nat)(hc:c<n):w.rangeAt A.g1 (c*9+4) (frV (S.cp c).h):=by
 refine h.au.range _ _ (by simp[frV];omega) fun j hj=>?_
 simp[frV] at hj
 rw[Nat.add_assoc,vP S c (4+j) (by omega)]
 rcases j with _|_|_|_|j<;>first|rfl|omega
theorem Tryz.iFrame:(Tryz.prog.info? 108).map (·.size)=some 4:=by kernel_rfl
theorem Tryz.uFrame:∃d,Tryz.prog.underlying 108=some d/\d.isRow=true:=⟨_,Tryz.underlying108,rfl⟩
theorem zm (f:Fr):(frV f).toArray.all (·.oneCell')=true:=by simp[frV,Value.oneCell']
theorem Eb (w:World)(N b:Nat)(A:Ad)(its:List Wd.It)(n:Nat)(S:Ma)(c:Nat)(h:DM w N b A its n S)(hc:c<n)(hn:n<=3) :
  Calls Tryz.prog 81 #[.pointer (some ⟨b,0,none⟩),.int .i64 c] w fun e w'=>e=.returned (.agg (frV (works S c)).toArray)/\Below w.heap.size w w':=by
 have r1:∀o,(w.alloc o).cell? ⟨b,1,none⟩=some (.slice (some ⟨A.g1,0,none⟩) n A.c1):=fun o=>(h.alloc o).root.cell 1 (by omega)
 have q4:∀o,(w.alloc o).cell? ⟨A.g1,c*9+4,none⟩=some (.bool (S.cp c).h.there):=fun o=>(h.alloc o).aC c 4 hc (by omega)
 have RT:=hide (fun o=>(h.alloc o).wD c hc)
 have RH:=hide (fun o=>(h.alloc o).qD c hc)
 obtain ⟨ud,hu,hd⟩:=Tryz.uFrame
 have HU:=hide hu
 have HD:=hide hd
 have CA:=h.caps
 unfold maxLen at CA
 cases ht:(S.cp c).h.there
 ·rw[ht] at q4
  have e:works S c=(S.cp c).t:=by simp[works,ht]
  rw[e]
  clear e h hu hd
  go_enter Tryz.func81,Tryz.ntmps81
  go_wp2_with (first|(refine wpList_load_mid rfl _ _ rfl _ _ rfl _ ud (RT.out _) HU.out HD.out Tryz.iFrame ?_)|(refine wpList_store_row rfl 108 _ _ rfl _ _ rfl rfl 108 _ (heap_alloc_last _ _) Tryz.iFrame rfl (zm _) ?_;rw[World.setRow_alloc_new]))
  exact bodyPost_ret (v:=.agg (frV (S.cp c).t).toArray) (results_cell_row Tryz.results81 _ _ w.heap.size 108 _ (0,0) _ rfl (heap_alloc_last _ _) Tryz.underlying108 rfl Tryz.iFrame) rfl ⟨rfl,(Below.refl _ _).alloc (Nat.le_refl _) _⟩
 ·rw[ht] at q4
  have e:works S c=(S.cp c).h:=by simp[works,ht]
  rw[e]
  clear e h hu hd
  go_enter Tryz.func81,Tryz.ntmps81
  go_wp2_with (first|(refine wpList_load_mid rfl _ _ rfl _ _ rfl _ ud (RH.out _) HU.out HD.out Tryz.iFrame ?_)|(refine wpList_store_row rfl 108 _ _ rfl _ _ rfl rfl 108 _ (heap_alloc_last _ _) Tryz.iFrame rfl (zm _) ?_;rw[World.setRow_alloc_new]))
  exact bodyPost_ret (v:=.agg (frV (S.cp c).h).toArray) (results_cell_row Tryz.results81 _ _ w.heap.size 108 _ (0,0) _ rfl (heap_alloc_last _ _) Tryz.underlying108 rfl Tryz.iFrame) rfl ⟨rfl,(Below.refl _ _).alloc (Nat.le_refl _) _⟩
end
end Go.Proofs.YtecmfdkhcffpmaaGreat
