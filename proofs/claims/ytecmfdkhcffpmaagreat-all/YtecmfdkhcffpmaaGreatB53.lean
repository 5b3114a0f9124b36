/- KpO, KwS, Finds. -/
import Derived.Test.YtecmfdkhcffpmaaGreatB51
import Derived.Test.YtecmfdkhcffpmaaGreatB52
import Derived.Test.YtecmfdkhcffpmaaGreatRows
import Derived.ProofKit
import Derived.OpenShut
import Derived.ShutString
import Derived.Carry
import Derived.Deep.Strs
namespace Go.Proofs.YtecmfdkhcffpmaaGreat
open Go.RowKit
set_option linter.unusedVariables false
set_option linter.unusedSimpArgs false
set_option linter.unusedSectionVars false
set_option maxHeartbeats 8000000
set_option maxRecDepth 100000
section
open Mc
namespace Mc
open Wd
def lkB (a:Nat):UInt8:=b8 (97+a)
def clB (k:Nat):UInt8:=b8 (48+k)
theorem Ri {its:List It}{k i p:Nat}(hk:1<=k)(hk5:k<=5)(hi:i<its.length)(hp:p<(ah its i).length+1)(hb:oK (isH its i) (ah its i) k p):((k:Int),(i:Int),(p:Int))∈bF its:=by
 unfold bF
 rw[List.mem_append,List.mem_append]
 left;left
 unfold l8 bZ
 rw[List.mem_flatMap]
 refine ⟨k-1,by simp;omega,?_⟩
 rw[show k-1+1=k by omega]
 unfold dU
 rw[List.mem_flatMap]
 refine ⟨i,by simpa using hi,?_⟩
 unfold gU
 rw[List.mem_map]
 refine ⟨p,?_,rfl⟩
 rw[List.mem_filter]
 exact ⟨by simpa using hp,by simpa using hb⟩
theorem h0:∀a,a<6->stp false [43,lkB a,122,45,lkB a] (0,0,false) false=(2,2 ^ a,false)/\kd false [43,lkB a,122,45,lkB a] (2,2 ^ a,false)=3:=by decide
theorem h1:∀a,a<6->kd false [45,lkB a] (0,0,false)=2:=by decide
theorem h2:∀a,a<6->stp false [91,43,lkB a,93] (stp false [91,43,lkB a,93] (stp false [91,43,lkB a,93] (stp false [91,43,lkB a,93] (0,0,false) false) false) false) false=(1,2 ^ a,false)/\kd false [91,43,lkB a,93] (1,2 ^ a,false)=1:=by decide
theorem h3:∀a,a<6->stp false [40,43,lkB a,124,41] (stp false [40,43,lkB a,124,41] (stp false [40,43,lkB a,124,41] (0,0,false) false) false) false=(5,2 ^ a,false)/\kd false [40,43,lkB a,124,41] (5,2 ^ a,false)=4:=by decide
theorem h4:∀a,a<6->stp true [43,lkB a,62,45,lkB a] (0,0,true) false=(2,2 ^ a,true)/\kd true [43,lkB a,62,45,lkB a] (2,2 ^ a,true)=5:=by decide
theorem h5:stp false [60,122] (0,0,false) false=(1,0,true)/\kd false [60,122] (1,0,true)=3:=by decide
theorem h6:∀a,a<6->∀b,b<6->(a==b||(decide (stp false [43,lkB a,43,lkB b,45,lkB b,45,lkB a] (0,0,false) false=(2,2 ^ a,false))&&(tkP [43,lkB a,43,lkB b,45,lkB b,45,lkB a] 2 (2 ^ a)).testBit b))=true:=by decide
theorem h7:∀a,a<6->stp false [43,lkB a,45,lkB a] (0,0,false) false=(2,2 ^ a,false)/\(tkP [43,lkB a,45,lkB a] 0 0).testBit a=true:=by decide
theorem h8:∀a,a<6->∀k,k<4->(decide (stp false [43,lkB a,119,clB k,45,lkB a] (0,0,false) false=(2,2 ^ a,false))&&decide (atB [43,lkB a,119,clB k,45,lkB a] 2=119)&&decide (aW [43,lkB a,119,clB k,45,lkB a] 2=k))=true:=by decide
theorem h9:∀k,k<4->atB [119,clB k] 0=119/\aW [119,clB k] 0=k:=by decide
end Mc
end
section
open Wd Mc
theorem Pw (s:ByteArray)(w:World)(x:Int×Int)(K I P:Int)(hs:s.size<=maxLen)(hread:Wd.aF s.data.toList=.error x) :
  Calls Tryz.prog 21 #[.string s,.agg #[.int .i64 K,.int .i64 I,.int .i64 P]] w fun e w'=>e=.returned (.tuple #[.string (Wd.mkS []),.int .i64 x.1])/\Below w.heap.size w w':=by
 have A:=hide (fun W=>Rb s W x K I P hs hread)
 have HB0:=hide (aD w (.cells #[.int .i64 K,.int .i64 I,.int .i64 P] 23))
 clear hread
 go_enter Tryz.func21,Tryz.ntmps21
 go_wp2_with (first|(go_at_call 47;refine (A.out _).mono ?_;rintro e w1 ⟨rfl,hb1⟩;have HB1:=hide (ak HB0.out hb1);clear hb1))
 go_ret2
 exact ⟨rfl,HB1.out⟩
theorem Px (s:ByteArray)(w:World)(its:List Wd.It)(K I P:Int)(hs:s.size<=maxLen)(hread:Wd.aF s.data.toList=.ok its)(hI:¬(0<=I/\I<its.length)) :
  Calls Tryz.prog 21 #[.string s,.agg #[.int .i64 K,.int .i64 I,.int .i64 P]] w fun e w'=>e=.returned (.tuple #[.string (Wd.mkS []),.int .i64 8])/\Below w.heap.size w w':=by
 have A:=hide (fun W=>Rf s W its K I P hs hread hI)
 have HB0:=hide (aD w (.cells #[.int .i64 K,.int .i64 I,.int .i64 P] 23))
 clear hread hI
 go_enter Tryz.func21,Tryz.ntmps21
 go_wp2_with (first|(go_at_call 47;refine (A.out _).mono ?_;rintro e w1 ⟨rfl,hb1⟩;have HB1:=hide (ak HB0.out hb1);clear hb1))
 go_ret2
 exact ⟨rfl,HB1.out⟩
theorem Rj (s:ByteArray)(w:World)(its:List Wd.It)(i:Nat)(K P:Int)(hs:s.size<=maxLen)(hread:Wd.aF s.data.toList=.ok its)(hi:i<its.length) :
  Calls Tryz.prog 21 #[.string s,.agg #[.int .i64 K,.int .i64 i,.int .i64 P]] w fun e w'=>qE i (isH its i) (ah its i) K P e/\Below w.heap.size w w':=by
 have A:=hide (fun W=>SA s W its i K P hs hread hi)
 have HB0:=hide (aD w (.cells #[.int .i64 K,.int .i64 (i:Int),.int .i64 P] 23))
 clear hread
 go_enter Tryz.func21,Tryz.ntmps21
 go_wp2_with fail
 go_at_call 47
 refine (A.out _).mono ?_
 rintro e w1 ⟨⟨L,hF,h|h⟩,hb1⟩
 ·obtain ⟨j,r,h1,h2,h3,h4,rfl⟩:=h
  have HB1:=hide (ak HB0.out hb1)
  have HP:Hid (∀e,e=.returned (.tuple #[.string (Wd.mkS (iZ i (ah its i) (bV L j))),.int .i64 0])->qE i (isH its i) (ah its i) K P e):=hide (fun e he=>⟨L,hF,Or.inl ⟨j,r,h1,h2,h3,h4,he⟩⟩)
  clear hb1 h1 h2 h3 h4 hF
  generalize iZ i (ah its i) (bV L j)=SC at *
  go_wp2
  go_ret2
  exact ⟨HP.out _ rfl,HB1.out⟩
 ·obtain ⟨h1,rfl⟩:=h
  have HB1:=hide (ak HB0.out hb1)
  have HP:Hid (∀e,e=.returned (.tuple #[.string (Wd.mkS []),.int .i64 8])->qE i (isH its i) (ah its i) K P e):=hide (fun e he=>⟨L,hF,Or.inr ⟨h1,he⟩⟩)
  clear hb1 h1 hF
  go_wp2
  go_ret2
  exact ⟨HP.out _ rfl,HB1.out⟩
theorem La {its:List It}{x:Rp}(h:x∈bF its):(∃k i p:Nat,1<=k/\k<=5/\i<its.length/\x=((k:Int),(i:Int),(p:Int))/\oK (isH its i) (ah its i) k p)\/(∃k l:Nat,(k=6\/k=7)/\x=((k:Int),-1,(l:Int))):=by
 unfold bF at h
 rw[List.mem_append,List.mem_append] at h
 rcases h with (h|h)|h
 ·left
  unfold l8 bZ at h
  rw[List.mem_flatMap] at h
  obtain ⟨k,hk,h⟩:=h
  unfold dU at h
  rw[List.mem_flatMap] at h
  obtain ⟨i,hi,h⟩:=h
  unfold gU at h
  rw[List.mem_map] at h
  obtain ⟨p,hp,rfl⟩:=h
  rw[List.mem_filter] at hp
  simp at hk hi
  exact ⟨k+1,i,p,by omega,by omega,hi,rfl,by have:=hp.2;simpa using this⟩
 ·right
  unfold dP at h
  rw[List.mem_map] at h
  obtain ⟨l,_,rfl⟩:=h
  exact ⟨6,l,Or.inl rfl,rfl⟩
 ·right
  unfold jW eF at h
  rw[List.mem_map] at h
  obtain ⟨l,_,rfl⟩:=h
  exact ⟨7,l,Or.inr rfl,rfl⟩
end
section
open Go.ChangeShapes Go.WideShapes Go.ChangeAt Go.RowKit
open Go.ChangeMaps (open_string shut_string)
open Mc
theorem Tryz.laidOutF:laidOutB Tryz.prog=true:=by kernel_rfl
theorem TI {n:Int}(h:(Lit.int .i64 n).wf=true):-9223372036854775808<=n/\n<=9223372036854775807:=by
 simp[Lit.wf,IntKind.min,IntKind.max,IntKind.bits,IntKind.signed] at h
 omega
theorem Gu {its:List Wd.It}{K I P:Int}(h:∀i:Nat,I=i->i<its.length->∀p:Nat,P=p->∀k:Nat,K=k->1<=k->¬oK (isH its i) (ah its i) k p):inB (bF its) K I P=false:=by
 cases hq:inB (bF its) K I P
 ·rfl
 ·exfalso
  obtain ⟨hm,h5⟩:=(FM _ _ _ _).1 hq
  rcases La hm with ⟨k,i,p,q1,q5,hi,hx,hb⟩ | ⟨k,l,hk,hx⟩
  ·simp only[Prod.mk.injEq] at hx
   exact h i hx.2.1 hi p hx.2.2 k hx.1 q1 hb
  ·simp only[Prod.mk.injEq] at hx
   have:=hx.1
   omega
theorem Nq (s:ByteArray)(w:World)(its:List Wd.It)(K I P:Int)(hs:s.size<=maxLen)(hread:Wd.aF s.data.toList=.ok its) :
  Calls Tryz.prog 21 #[.string s,.agg #[.int .i64 K,.int .i64 I,.int .i64 P]] w fun e w'=>(∃sc ee,e=.returned (.tuple #[.string (Wd.mkS sc),.int .i64 ee])/\GoodS its K I P sc ee)/\Below w.heap.size w w':=by
 have hf:=jP hread
 by_cases hI:0<=I/\I<its.length
 ·obtain ⟨i,rfl⟩:∃i:Nat,I=i:=⟨I.toNat,by omega⟩
  have hi:i<its.length:=by omega
  refine (Rj s w its i K P hs hread hi).mono ?_
  rintro e w' ⟨⟨L,hF,h|h⟩,hb⟩
  ·obtain ⟨j,r,a1,a2,a3,a4,rfl⟩:=h
   refine ⟨⟨_,_,rfl,Or.inr ⟨?_,rfl,?_⟩⟩,hb⟩
   ·rw[FM]
    have hkb:=wN (isH its i) (ah its i) r.st
    obtain ⟨k,hk⟩:∃k:Nat,K=k:=⟨K.toNat,by omega⟩
    subst hk
    refine ⟨?_,by omega⟩
    rw[<-a4]
    have hR:Rch (isH its i) (ah its i) r.st:=(hF.all _).2 ⟨r,List.mem_of_getElem? a1,rfl⟩
    exact Ri (by omega) (by omega) hi (hR.place (hf.gb hi)) ⟨r.h,r.off,hR,a2⟩
   ·have hn:aB (isH its i) (ah its i) r.p r.h r.off≠0:=by
     intro e
     have hkk:jk (aB (isH its i) (ah its i) r.p r.h r.off)=K:=a2
     rw[e] at hkk;exact a3 hkk.symm
    obtain ⟨_,c2,c3⟩:=Nl hf hi hF a1 hn
    exact ⟨c3,c2,Nn hf hi hF a1 a2 a3 a4⟩
  ·obtain ⟨h1,rfl⟩:=h
   refine ⟨⟨_,_,rfl,Or.inl ⟨Gu fun i' e1 hi' p e2 k e3 q1 hb'=>?_,rfl,rfl⟩⟩,hb⟩
   have e1':i'=i:=by omega
   subst e1'
   obtain ⟨hh,off,hr,hk⟩:=hb'
   obtain ⟨r,hr1,hr2⟩:=(hF.all _).1 hr
   have e4:r.p=p:=by have:=congrArg (fun s:St3=>s.1) hr2;simpa [Rc.st] using this
   refine h1 r hr1 ⟨?_,?_,by rw[e4,e2]⟩
   ·rw[hr2,hk];omega
   ·rw[hr2,hk,e3]
 ·refine (Px s w its K I P hs hread hI).mono ?_
  rintro e w' ⟨rfl,hb⟩
  refine ⟨⟨_,_,rfl,Or.inl ⟨Gu fun i e1 hi p _ k _ _ _=>hI ⟨by omega,by omega⟩,rfl,rfl⟩⟩,hb⟩
theorem Rk (s:ByteArray)(K I P k:Int)(hs:s.size<=maxLen)(w:World)(x:Int×Int)(hread:Wd.aF s.data.toList=.error x) :
  Calls Tryz.prog 9 #[.string s,.agg #[.int .i64 K,.int .i64 I,.int .i64 P],.int .i64 k] w fun e w'=>e=.returned (.bool true)/\Below w.heap.size w w':=by
 have A1:=hide (fun W=>Pw s W x K I P hs hread)
 have A2:=hide (fun W=>Np s W x K I P hs hread)
 have A3:=fun W=>pR s W hs
 rw[hread] at A3
 have HA3:=hide A3
 clear A3 hread
 have HW0:=hide (Row.new w #[.int .i64 K,.int .i64 I,.int .i64 P] 23)
 have HB0:=hide (aD w (.cells #[.int .i64 K,.int .i64 I,.int .i64 P] 23))
 go_enter Tryz.func9,Tryz.ntmps9
 by_cases hk:k<0
 ·go_wp2_with (first
   | (go_at_call 18;refine (HA3.out _).mono ?_;rintro e w3 ⟨hb3,rfl⟩;have HB3:=hide (ak HB2.out hb3);clear hb3)
   | (go_at_call 22;refine (A2.out _).mono ?_;rintro e w2 ⟨rfl,hb2⟩;have HB2:=hide (ak HB1.out hb2);clear hb2)
   | (go_at_call 21;refine (A1.out _).mono ?_;rintro e w1 ⟨rfl,hb1⟩;have HB1:=hide (ak HB0.out hb1);have HW1:=hide (HW0.out.below hb1);have y0:w1.cell? ⟨w.heap.size,0,none⟩=some (.int .i64 K):=HW1.out.cell 0 rfl;have y1:w1.cell? ⟨w.heap.size,1,none⟩=some (.int .i64 I):=HW1.out.cell 1 rfl;have y2:w1.cell? ⟨w.heap.size,2,none⟩=some (.int .i64 P):=HW1.out.cell 2 rfl;clear hb1))
  go_ret
  exact ⟨rfl,HB3.out⟩
 ·go_wp2_with (first
   | (go_at_call 18;refine (HA3.out _).mono ?_;rintro e w3 ⟨hb3,rfl⟩;have HB3:=hide (ak HB2.out hb3);clear hb3)
   | (go_at_call 22;refine (A2.out _).mono ?_;rintro e w2 ⟨rfl,hb2⟩;have HB2:=hide (ak HB1.out hb2);clear hb2)
   | (go_at_call 21;refine (A1.out _).mono ?_;rintro e w1 ⟨rfl,hb1⟩;have HB1:=hide (ak HB0.out hb1);have HW1:=hide (HW0.out.below hb1);have y0:w1.cell? ⟨w.heap.size,0,none⟩=some (.int .i64 K):=HW1.out.cell 0 rfl;have y1:w1.cell? ⟨w.heap.size,1,none⟩=some (.int .i64 I):=HW1.out.cell 1 rfl;have y2:w1.cell? ⟨w.heap.size,2,none⟩=some (.int .i64 P):=HW1.out.cell 2 rfl;clear hb1))
  go_ret
  exact ⟨rfl,HB3.out⟩
theorem Py (s:ByteArray)(K I P k:Int)(hs:s.size<=maxLen)(w:World)(its:List Wd.It)(hread:Wd.aF s.data.toList=.ok its) :
  Calls Tryz.prog 9 #[.string s,.agg #[.int .i64 K,.int .i64 I,.int .i64 P],.int .i64 k] w fun e w'=>e=.returned (.bool true)/\Below w.heap.size w w':=by
 have A1:=hide (fun W K I P=>Nq s W its K I P hs hread)
 have A2:=hide (fun W K I P sc ee h=>Pv s W its K I P sc ee hs hread h)
 have A3:=fun W=>pR s W hs
 rw[hread] at A3
 have HA3:=hide A3
 have hrl:=Ff its (jP hread)
 clear A3 hread
 have HW0:=hide (Row.new w #[.int .i64 K,.int .i64 I,.int .i64 P] 23)
 have HB0:=hide (aD w (.cells #[.int .i64 K,.int .i64 I,.int .i64 P] 23))
 go_enter Tryz.func9,Tryz.ntmps9
 go_wp2_with fail
 go_at_call 21
 refine (A1.out _ _ _ _).mono ?_
 rintro e w1 ⟨⟨sc,ee,rfl,hgood⟩,hb1⟩
 have HB1:=hide (ak HB0.out hb1)
 have HW1:=hide (HW0.out.below hb1)
 have y0:w1.cell? ⟨w.heap.size,0,none⟩=some (.int .i64 K):=HW1.out.cell 0 rfl
 have y1:w1.cell? ⟨w.heap.size,1,none⟩=some (.int .i64 I):=HW1.out.cell 1 rfl
 have y2:w1.cell? ⟨w.heap.size,2,none⟩=some (.int .i64 P):=HW1.out.cell 2 rfl
 have HGD:=hide hgood
 clear hb1 hgood
 go_wp2_with fail
 go_at_call 22
 refine (A2.out _ _ _ _ _ _ HGD.out).mono ?_
 rintro e w2 ⟨rfl,hb2⟩
 have HB2:=hide (ak HB1.out hb2)
 clear hb2 y0 y1 y2 HGD HW0 HW1 HB0 HB1
 go_wp2_with fail
 go_at_call 18
 refine (HA3.out _).mono ?_
 rintro e w3 ⟨hb3,ao,cc,rfl,hown⟩
 have HB3:=hide (ak HB2.out hb3)
 generalize bF its=R at *
 have HO3:=hide hown
 clear hb3 hown HB2 HA3
 by_cases hk:k<0
 ·go_wp2
  go_ret
  exact ⟨rfl,HB3.out⟩
 by_cases hkl:k<(R.length:Int)
 case neg =>
  go_wp2
  go_ret
  exact ⟨rfl,HB3.out⟩
 obtain ⟨j,rfl⟩:∃j:Nat,k=j:=⟨k.toNat,by omega⟩
 have hlt:j<R.length:=by omega
 obtain ⟨g1,c1,hv1,_,hg1,_,_,hr1⟩:=fI iY HO3.out (List.getElem?_eq_getElem hlt)
 cases hv1
 have HRC:Hid (∀W:World,Below w3.heap.size w3 W->W.cell? ⟨g1,j*3,none⟩=some (.int .i64 R[j].1)/\W.cell? ⟨g1,j*3+1,none⟩=some (.int .i64 R[j].2.1)/\W.cell? ⟨g1,j*3+2,none⟩=some (.int .i64 R[j].2.2)):=hide (fun W hW=>⟨(hW.cell (by exact hg1)).trans (hr1 0 _ rfl),(hW.cell (by exact hg1)).trans (hr1 1 _ rfl),(hW.cell (by exact hg1)).trans (hr1 2 _ rfl)⟩)
 clear hr1
 generalize R[j].1=x at *
 generalize R[j].2.1=y at *
 generalize R[j].2.2=z at *
 obtain ⟨d0,d1,d2⟩:=HRC.out w3 (Below.refl _ _)
 have hk0:(0:Int)<=(j:Int):=by omega
 go_wp2_with fail
 go_at_call 21
 refine (A1.out _ _ _ _).mono ?_
 rintro e w4 ⟨⟨sc4,ee4,rfl,Ga⟩,hb4⟩
 have HB4:=hide (ak HB3.out hb4)
 obtain ⟨e0,e1,e2⟩:=HRC.out w4 hb4
 have HGD:=hide Ga
 clear hb4 Ga
 go_wp2_with fail
 go_at_call 22
 refine (A2.out _ _ _ _ _ _ HGD.out).mono ?_
 rintro e w5 ⟨rfl,hb5⟩
 have HB5:=hide (ak HB4.out hb5)
 clear hb5
 go_wp2
 go_ret
 exact ⟨rfl,HB5.out⟩
theorem Nr (s:ByteArray)(K I P k:Int)(hs:s.size<=maxLen)(w:World) :
  Calls Tryz.prog 9 #[.string s,.agg #[.int .i64 K,.int .i64 I,.int .i64 P],.int .i64 k] w fun e w'=>e=.returned (.bool true)/\Below w.heap.size w w':=by
 cases hr:Wd.aF s.data.toList with
 | error x=>exact Rk s K I P k hs w x hr
 | ok its=>exact Py s K I P k hs w its hr
theorem Tryz.cellsRepF:Tryz.prog.cellsOf 23=3:=by kernel_rfl
theorem Tryz.cellsIntF:Tryz.prog.cellsOf 3=1:=by kernel_rfl
theorem TJ {H:Type}{enc:TypeId×Value->H}{W:World}{base:Nat}{v:Value}{d:DataW H}{p:List MemPlace}(hv:Value.okWide Tryz.prog W .any base 23 v)(h:DataW.Trod enc Tryz.prog W 0 (fun _=>true) true 23 v d p):∃K I P:Int,v=.agg #[.int .i64 K,.int .i64 I,.int .i64 P]:=by
 obtain ⟨cs,rfl,hcs⟩:=okWide_struct Tryz.underlying23 hv
 obtain ⟨fuel,hf⟩:=h
 have hf:DataW.trod enc Tryz.prog W 0 (fun _=>true) true fuel 23 cs.toList=some (d,p):=hf
 rw[Tryz.cellsRepF] at hcs
 obtain ⟨y0,y1,y2,n,_,hl,t0,t1,t2⟩:=Go.Deep.trod_struct3 Tryz.underlying23 hf
 obtain ⟨k0,e0,_⟩:=DataW.trod_int Tryz.underlying3 t0
 obtain ⟨k1,e1,_⟩:=DataW.trod_int Tryz.underlying3 t1
 obtain ⟨k2,e2,_⟩:=DataW.trod_int Tryz.underlying3 t2
 simp only[Tryz.cellsIntF] at e0 e1 e2
 obtain ⟨l⟩:=cs
 match l,hcs with
 | [a,b,c],_ =>
  simp at e0 e1 e2
  exact ⟨k0,k1,k2,by rw[e0,e1,e2]⟩
end
end Go.Proofs.YtecmfdkhcffpmaaGreat
