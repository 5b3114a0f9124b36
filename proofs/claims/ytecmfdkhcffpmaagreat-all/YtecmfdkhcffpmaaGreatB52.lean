/- KpW, FnB, StT. -/
import Derived.Test.YtecmfdkhcffpmaaGreatB49
import Derived.Test.YtecmfdkhcffpmaaGreatB51
import Derived.Test.YtecmfdkhcffpmaaGreatB48
import Derived.Test.YtecmfdkhcffpmaaGreatB36
import Derived.Test.YtecmfdkhcffpmaaGreatB50
import Derived.Test.YtecmfdkhcffpmaaGreatB39
namespace Go.Proofs.YtecmfdkhcffpmaaGreat
open Go.RowKit
set_option linter.unusedVariables false
set_option linter.unusedSimpArgs false
set_option linter.unusedSectionVars false
set_option maxHeartbeats 8000000
set_option maxRecDepth 100000
section
open Mc
namespace Mc
open Wd
theorem TG {its:List It}(hf:bH its){i:Nat}{s t:St3}{rs:List Rc}(hc:Chn (isH its i) (ah its i) s rs t)(K P:Int)(hn:aB (isH its i) (ah its i) t.1 t.2.1 t.2.2≠0)(hK:jl (aB (isH its i) (ah its i) t.1 t.2.1 t.2.2)=K)(hP:(t.1:Int)=P):∀S,AtS its i s S->jm its K i P S (dZ i (ah its i) s.1 rs)=true:=by
 have hbad:bad (aB (isH its i) (ah its i) t.1 t.2.1 t.2.2)=true:=by
  rcases mZ (isH its i) (ah its i) t.1 t.2.1 t.2.2 with h|h|h|h|h|h
  ·exact absurd h hn
  all_goals rw[h];rfl
 induction hc with
 | nil t =>
  intro S h
  have hw:=h.wrong hf hn
  unfold dZ
  rw[jm,show bt 46=46 from rfl,hw,if_pos hbad,h.wk]
  simp[hK,hP]
 | @cons s t r rs h1 h2 hr ih =>
  intro S h
  rw[h1] at h2
  have hg:=h.go hf r.comma h2
  have hst:=(hf.gb h.item).stands (by have:=h.all.ats.works 0 (by decide) (by rw[h.wk]);rw[h.wk] at this;exact this)
  have hnb:bad (command its S 1 0 (if r.comma=true then 44 else 46)).1=false:=by rw[hg.1];exact DK hst
  rw[h1] at ih
  have Az:(stp (isH its i) (ah its i) s r.comma).1=r.p:=by rw[<-h1];rfl
  have ih:=ih hn hK hP hbad
  rw[Az] at ih
  unfold dZ
  rw[List.cons_append,List.cons_append,List.nil_append,jm,F9]
  generalize (if r.comma=true then (44:Int) else 46)=o at hg hnb ⊢
  rw[if_neg (by rw[hnb];decide)]
  by_cases fC:atB (ah its i) s.1=122
  ·obtain ⟨g1,g2⟩:=hg.2.2 fC
   have hi:=h.item
   have h8:=hf.len
   rw[if_pos fC,List.cons_append,List.cons_append,List.nil_append,jm,oL (by omega),show ((48+i:Nat):Int)=48+(i:Int) by omega,if_neg (by rw[g2];decide)]
   exact ih _ g1
  ·have g:=hg.2.1 fC
   rw[if_neg fC,List.nil_append]
   exact ih _ g
theorem Sz (hd:Bool)(b:List UInt8)(p h:Nat)(off:Bool):jl (aB hd b p h off)=jk (aB hd b p h off):=by
 rcases mZ hd b p h off with e|e|e|e|e|e<;>rw[e]<;>rfl
theorem Nn {its:List It}(hf:bH its){i:Nat}(hi:i<its.length){L:List Rc}(hF:iP (isH its i) (ah its i) L){j:Nat}{r:Rc}(hr:L[j]?=some r){K P:Int}(hk:kd (isH its i) (ah its i) r.st=K)(hK:K≠0)(hP:(r.p:Int)=P) :
  jm its K i P (aM its) (iZ i (ah its i) (bV L j))=true:=by
 have hi8:=hf.len
 have hc:=FL hF j r hr
 obtain ⟨hA,hb⟩:=AtS.aM hf hi
 have hkk:jk (aB (isH its i) (ah its i) r.p r.h r.off)=K:=hk
 have hn:aB (isH its i) (ah its i) r.p r.h r.off≠0:=by
  intro e;rw[e] at hkk;exact hK hkk.symm
 have hd:=TG hf hc K P hn (by rw[Sz];exact hkk) hP _ hA
 unfold iZ
 rw[List.cons_append,List.cons_append,List.nil_append,jm,oL (by omega),show ((48+i:Nat):Int)=48+(i:Int) by omega,if_neg (by rw[hb];decide)]
 exact hd
end Mc
end
section
open Mc
def inB (R:List Rp)(K I P:Int):Bool:=R.any (fun x=>x.1==K&&(x.2.1==I&&x.2.2==P))&&decide (K<=5)
theorem Ra (R:List Rp)(j:Nat)(h:j<R.length)(K I P:Int):inB (R.take (j+1)) K I P=(inB (R.take j) K I P||((R[j].1==K&&(R[j].2.1==I&&R[j].2.2==P))&&decide (K<=5))):=by
 unfold inB
 rw[List.take_succ_eq_append_getElem h,List.any_append]
 simp only[List.any_cons,List.any_nil,Bool.or_false]
 cases (R.take j).any (fun x=>x.1==K&&(x.2.1==I&&x.2.2==P))<;>cases (R[j].1==K&&(R[j].2.1==I&&R[j].2.2==P))<;>cases decide (K<=5)<;>rfl
theorem FM (R:List Rp)(K I P:Int):inB R K I P=true↔(K,I,P)∈R/\K<=5:=by
 unfold inB
 rw[Bool.and_eq_true,decide_eq_true_eq,List.any_eq_true]
 constructor
 ·rintro ⟨⟨x,hx,h⟩,h5⟩
  simp at h
  obtain ⟨h1,h2,h3⟩:=h
  exact ⟨by rw[<-h1,<-h2,<-h3];exact hx,h5⟩
 ·rintro ⟨h,h5⟩
  exact ⟨⟨_,h,by simp⟩,h5⟩
theorem Ff (its:List Wd.It)(hf:bH its):(bF its).length<=30000:=by
 have a1:(l8 its).length<=5*(its.length*301):=by
  unfold l8
  exact rH _ _ its.length 5 (fun i hi=>by have:=hf.short i hi;omega)
 have a2:=qf (fwK (bT its) 6) 6
 have a3:(jW its).length<=4:=by unfold jW;exact qg _ 4
 have a4:5*(its.length*301)<=5*(8*301):=Nat.mul_le_mul (by omega) (Nat.mul_le_mul_right _ hf.len)
 unfold bF
 rw[List.length_append,List.length_append]
 omega
theorem Np (s:ByteArray)(w:World)(x:Int×Int)(K I P:Int)(hs:s.size<=maxLen)(hread:Wd.aF s.data.toList=.error x) :
  Calls Tryz.prog 22 #[.string s,.agg #[.int .i64 K,.int .i64 I,.int .i64 P],.string (Wd.mkS []),.int .i64 x.1] w fun e w'=>e=.returned (.bool true)/\Below w.heap.size w w':=by
 have hx:=Wd.jf hread
 have HU:=fun W=>uK s W hs
 have HA:=fun W=>pR s W hs
 rw[hread] at HU HA
 have HHU:=hide HU
 have HHA:=hide HA
 clear HU HA hread
 have hne:(x.1 != 0)=true:=by simp[hx]
 have heq:(x.1==x.1)=true:=by simp
 have hem:(Wd.mkS []).toList.isEmpty=true:=by unfold Wd.mkS;rw[ByteArray.toList_mk];rfl
 have HB0:=hide (aD w (.cells #[.int .i64 K,.int .i64 I,.int .i64 P] 23))
 go_enter Tryz.func22,Tryz.ntmps22
 go_wp2_with (first|(go_at_call 18;refine (HHA.out _).mono ?_;rintro e w2 ⟨hb2,rfl⟩;have HB2:=hide (ak HB1.out hb2);clear hb2)|(go_at_call 13;refine (HHU.out _).mono ?_;rintro e w1 ⟨hb1,rfl⟩;have HB1:=hide (ak HB0.out hb1);clear hb1))
 go_ret
 exact ⟨rfl,HB2.out⟩
def GoodS (its:List Wd.It)(K I P:Int)(sc:List UInt8)(ee:Int):Prop :=
 (inB (bF its) K I P=false/\sc=[]/\ee=8)\/(inB (bF its) K I P=true/\ee=0/\sc.length<=200000/\aX (1:Nat) sc=true/\jm its K I P (aM its) sc=true)
theorem Pv (s:ByteArray)(w:World)(its:List Wd.It)(K I P:Int)(sc:List UInt8)(ee:Int)(hs:s.size<=maxLen)(hread:Wd.aF s.data.toList=.ok its)(hg:GoodS its K I P sc ee) :
  Calls Tryz.prog 22 #[.string s,.agg #[.int .i64 K,.int .i64 I,.int .i64 P],.string (Wd.mkS sc),.int .i64 ee] w fun e w'=>e=.returned (.bool true)/\Below w.heap.size w w':=by
 have HF:=hide (jP hread)
 have HU:=fun W=>uK s W hs
 have HA:=fun W=>pR s W hs
 rw[hread] at HU HA
 have HHU:=hide HU
 have HHA:=hide HA
 have hrl:(bF its).length<=30000:=Ff its HF.out
 clear HU HA hread
 have HG:=hide hg
 clear hg
 obtain ⟨R,hR⟩:∃R,bF its=R:=⟨_,rfl⟩
 have HR:=hide hR
 rw[hR] at hrl
 clear hR
 have s3:=Wd.bN sc
 have HW0:=hide (Row.new w #[.int .i64 K,.int .i64 I,.int .i64 P] 23)
 have HB0:=hide (aD w (.cells #[.int .i64 K,.int .i64 I,.int .i64 P] 23))
 have hk5:(decide (K<=5)=decide (K<=5)):=rfl
 clear hk5
 go_enter Tryz.func22,Tryz.ntmps22
 go_wp2_with (first|(go_at_call 18;refine (HHA.out _).mono ?_;rintro e w2 ⟨hb2,ao,cc,rfl,hown⟩;rw[HR.out] at hown ⊢;have HO2:=hide hown;have U0:=hide (own_below U1.out hb2);have HB2:=hide (ak HB1.out hb2);have HW2:=hide (HW1.out.below hb2);clear hb2 hown)|(go_at_call 13;refine (HHU.out _).mono ?_;rintro e w1 ⟨hb1,aoi,cci,rfl,Gt⟩;have U1:=hide Gt;have HB1:=hide (ak HB0.out hb1);have HW1:=hide (HW0.out.below hb1);clear hb1 Gt))
 go_loopw [13,14] (fun c a wr=>∃j:Nat,j<=R.length/\a=.int .i64 j/\c=.bool (inB (R.take j) K I P)/\Below w2.heap.size w2 wr) (fun _ a _=>R.length-(intOf a).toNat)
 case atStart=>exact ⟨0,by omega,rfl,by simp[inB],Below.refl _ _⟩
 case round =>
  obtain ⟨j,hj,rfl,rfl,hb⟩:=hrel
  have HB:=hide hb
  clear hb
  by_cases hlt:j<R.length
  ·obtain ⟨g1,c1,hv1,_,hg1,_,_,hr1⟩:=fI iY HO2.out (List.getElem?_eq_getElem hlt)
   cases hv1
   have d0:wr.cell? ⟨g1,j*3,none⟩=some (.int .i64 R[j].1):=(HB.out.cell (by exact hg1)).trans (hr1 0 _ rfl)
   have d1:wr.cell? ⟨g1,j*3+1,none⟩=some (.int .i64 R[j].2.1):=(HB.out.cell (by exact hg1)).trans (hr1 1 _ rfl)
   have d2:wr.cell? ⟨g1,j*3+2,none⟩=some (.int .i64 R[j].2.2):=(HB.out.cell (by exact hg1)).trans (hr1 2 _ rfl)
   have y0:wr.cell? ⟨w.heap.size,0,none⟩=some (.int .i64 K):=(HW2.out.below HB.out).cell 0 rfl
   have y1:wr.cell? ⟨w.heap.size,1,none⟩=some (.int .i64 I):=(HW2.out.below HB.out).cell 1 rfl
   have y2:wr.cell? ⟨w.heap.size,2,none⟩=some (.int .i64 P):=(HW2.out.below HB.out).cell 2 rfl
   have HIN:=hide (Ra R j hlt K I P)
   clear hr1
   generalize R[j].1=x at *
   generalize R[j].2.1=y at *
   generalize R[j].2.2=z at *
   generalize inB (R.take j) K I P=q at *
   have hki:(j:Int)<(R.length:Int):=by omega
   have hk0:(0:Int)<=(j:Int):=by omega
   cases b1:(x==K)
   ·rw[b1] at HIN
    cases q
    all_goals (
     go_wp2_with fail
     go_quiet (fail)
     go_wp2
     go_round
     case measure=>simp[intOf];omega
     case rel=>exact ⟨j+1,by omega,by go_num,by rw[HIN.out];rfl,below_drewN HB.out _⟩)
   cases b2:(y==I)
   ·rw[b1,b2] at HIN
    cases q
    all_goals (
     go_wp2_with fail
     go_quiet (fail)
     go_wp2
     go_round
     case measure=>simp[intOf];omega
     case rel=>exact ⟨j+1,by omega,by go_num,by rw[HIN.out];rfl,below_drewN HB.out _⟩)
   cases b3:(z==P)
   ·rw[b1,b2,b3] at HIN
    cases q
    all_goals (
     go_wp2_with fail
     go_quiet (fail)
     go_wp2
     go_round
     case measure=>simp[intOf];omega
     case rel=>exact ⟨j+1,by omega,by go_num,by rw[HIN.out];rfl,below_drewN HB.out _⟩)
   ·rw[b1,b2,b3] at HIN
    by_cases hK5:K<=5
    ·have HD:=hide (show decide (K<=5)=true by simp[hK5])
     cases q
     all_goals (
      go_wp2_with fail
      go_quiet (fail)
      go_wp2
      go_round
      case measure=>simp[intOf];omega
      case rel=>exact ⟨j+1,by omega,by go_num,by rw[HIN.out,HD.out];rfl,below_drewN HB.out _⟩)
    ·have HD:=hide (show decide (K<=5)=false by simp;omega)
     cases q
     all_goals (
      go_wp2_with fail
      go_quiet (fail)
      go_wp2
      go_round
      case measure=>simp[intOf];omega
      case rel=>exact ⟨j+1,by omega,by go_num,by rw[HIN.out,HD.out];rfl,below_drewN HB.out _⟩)
  ·have e:R.take j=R:=List.take_of_length_le (by omega)
   rw[e]
   clear e
   have hgg:=HG.out
   unfold GoodS at hgg
   rw[HR.out] at hgg
   rcases hgg with ⟨h1,h2,h3⟩ | ⟨h1,h2,h3,h4,h5⟩
   ·rw[h1]
    subst h2 h3
    have hem:(Wd.mkS []).toList.isEmpty=true:=by unfold Wd.mkS;rw[ByteArray.toList_mk];rfl
    clear h1
    go_wp2
    go_ret
    exact ⟨rfl,HB2.out.trans (HB.out.mono HB2.out.size)⟩
   ·rw[h1]
    subst h2
    clear h1
    have ASc:=hide (fun W=>Dp (Wd.mkS sc) 1 W (by rw[s3];omega) (by decide))
    rw[Wd.fM,h4] at ASc
    obtain ⟨ai,ci,hvi,sK,sM,hit⟩:=yG (own_below U0.out HB.out)
    have AE:=hide (fun W hit=>Q0 W its ai ci (Wd.mkS sc) K I P HF.out (by rw[s3];exact h3) ⟨sK,sM⟩ hit (by rw[Wd.fM];exact h4) (by rw[Wd.fM];exact h5))
    have y0:wr.cell? ⟨w.heap.size,0,none⟩=some (.int .i64 K):=(HW2.out.below HB.out).cell 0 rfl
    have y1:wr.cell? ⟨w.heap.size,1,none⟩=some (.int .i64 I):=(HW2.out.below HB.out).cell 1 rfl
    have y2:wr.cell? ⟨w.heap.size,2,none⟩=some (.int .i64 P):=(HW2.out.below HB.out).cell 2 rfl
    have Wm:(sc.length:Int)<=200000:=by omega
    have U2:=hide hit
    clear h4 h5 hit
    cases hvi
    go_wp2_with (first|(go_at_call 49;refine (AE.out _ U2.out).mono ?_;rintro e w5 ⟨rfl,hb5⟩;have HB5:=hide (ak (HB2.out.trans (HB.out.mono HB2.out.size)) hb5);clear hb5)|(go_at_call 48;refine (ASc.out _).mono ?_;rintro e w' ⟨rfl,hww⟩;obtain rfl:=hww.symm;clear hww))
    go_ret
    exact ⟨rfl,HB5.out⟩
end
section
open Mc
theorem Rb (s:ByteArray)(w:World)(x:Int×Int)(K I P:Int)(hs:s.size<=maxLen)(hread:Wd.aF s.data.toList=.error x) :
  Calls Tryz.prog 47 #[.string s,.agg #[.int .i64 K,.int .i64 I,.int .i64 P]] w fun e w'=>e=.returned (.tuple #[.string (Wd.mkS []),.int .i64 x.1])/\Below w.heap.size w w':=by
 have hx:=Wd.jf hread
 have HX:=fun W=>kZ s W hs
 rw[hread] at HX
 have HXX:=hide HX
 clear HX hread
 have hne:(x.1 != 0)=true:=by simp[hx]
 have HB0:=hide (aD w (.cells #[.int .i64 K,.int .i64 I,.int .i64 P] 23))
 go_enter Tryz.func47,Tryz.ntmps47
 go_wp2_with (first|(go_at_call 35;refine (HXX.out _).mono ?_;rintro e w1 ⟨hb1,rfl⟩;have HB1:=hide (ak HB0.out hb1);clear hb1))
 go_ret2
 exact ⟨rfl,HB1.out⟩
theorem Rf (s:ByteArray)(w:World)(its:List Wd.It)(K I P:Int)(hs:s.size<=maxLen)(hread:Wd.aF s.data.toList=.ok its)(hI:¬(0<=I/\I<its.length)) :
  Calls Tryz.prog 47 #[.string s,.agg #[.int .i64 K,.int .i64 I,.int .i64 P]] w fun e w'=>e=.returned (.tuple #[.string (Wd.mkS []),.int .i64 8])/\Below w.heap.size w w':=by
 have HX:=fun W=>kZ s W hs
 rw[hread] at HX
 have HXX:=hide HX
 clear HX hread
 have HR0:=hide (Row.new w #[.int .i64 K,.int .i64 I,.int .i64 P] 23)
 have HB0:=hide (aD w (.cells #[.int .i64 K,.int .i64 I,.int .i64 P] 23))
 go_enter Tryz.func47,Tryz.ntmps47
 by_cases h0:I<0
 ·clear hI
  go_wp2_with (first|(go_at_call 35;refine (HXX.out _).mono ?_;rintro e w1 ⟨hb1,g0,c0,rfl,hown1⟩;have HB1:=hide (ak HB0.out hb1);have HR1:=hide (HR0.out.below hb1);have i1:w1.cell? ⟨w.heap.size,1,none⟩=some (.int .i64 I):=HR1.out.cell 1 rfl;clear hb1 hown1))
  go_ret2
  exact ⟨rfl,HB1.out⟩
 ·have h1:¬I<(its.length:Int):=fun h=>hI ⟨by omega,h⟩
  clear hI
  go_wp2_with (first|(go_at_call 35;refine (HXX.out _).mono ?_;rintro e w1 ⟨hb1,g0,c0,rfl,hown1⟩;have HB1:=hide (ak HB0.out hb1);have HR1:=hide (HR0.out.below hb1);have i1:w1.cell? ⟨w.heap.size,1,none⟩=some (.int .i64 I):=HR1.out.cell 1 rfl;clear hb1 hown1))
  go_ret2
  exact ⟨rfl,HB1.out⟩
def qE (i:Nat)(hd:Bool)(b:List UInt8)(K P:Int)(e:Ending):Prop :=
 ∃L,iP hd b L/\((∃(j:Nat) (r:Rc),L[j]?=some r/\kd hd b r.st=K/\K≠0/\(r.p:Int)=P/\e=.returned (.tuple #[.string (Wd.mkS (iZ i b (bV L j))),.int .i64 0])) \/
  ((∀r∈L,¬(kd hd b r.st≠0/\kd hd b r.st=K/\(r.p:Int)=P))/\e=.returned (.tuple #[.string (Wd.mkS []),.int .i64 8])))
theorem Rh {L:List Rc}{j:Nat}{r:Rc}(h:r∈bV L j):r∈L:=by
 unfold bV at h
 rw[List.mem_reverse] at h
 have key:∀n i,r∈gy L n i->r∈L:=by
  intro n
  induction n with
  | zero=>intro i h;simp[gy] at h
  | succ n ih =>
   intro i h
   unfold gy at h
   split at h
   ·simp at h
   ·split at h
    ·simp at h
    ·rename_i q hq
     rcases List.mem_cons.1 h with h|h
     ·rw[h];exact List.mem_of_getElem? hq
     ·exact ih _ h
 exact key _ _ h
theorem rU {w:World}{g lg:Nat}{hd:Bool}{s0:ByteArray}{u:Value}(h:Row w g #[.bool hd,.bool hd,.string s0,.slice (some ⟨lg,0,none⟩) s0.size s0.size,u] 127):w.rangeAt g 1 [.bool hd,.string s0,.slice (some ⟨lg,0,none⟩) s0.size s0.size]:=h.range 1 _ (fun j v hj=>by
 have hlt:j<3:=(List.getElem?_eq_some_iff.1 hj).1
 match j,hlt with
 | 0,_|1,_|2,_=>exact hj)
structure ShI (w W:World)(hd:Bool)(s0:ByteArray)(lg gk:Nat)(kao:Option Addr)(kc:Nat)(L:List Rc)(K I P:Int):Prop where
 rr:Row W w.heap.size #[.int .i64 K,.int .i64 I,.int .i64 P] 23
 kr:Row W gk #[.bool hd,.bool hd,.string s0,.slice (some ⟨lg,0,none⟩) s0.size s0.size,.slice kao L.length kc] 127
 own:W.ownsRow 0 130 10 (.slice kao L.length kc) L.length (iA L)
 b:Below w.heap.size w W
theorem ShI.below {w W W':World}{hd:Bool}{s0:ByteArray}{lg gk:Nat}{kao:Option Addr}{kc:Nat}{L:List Rc}{K I P:Int}(h:ShI w W hd s0 lg gk kao kc L K I P)(hb:Below W.heap.size W W'):ShI w W' hd s0 lg gk kao kc L K I P :=
 ⟨h.rr.below hb,h.kr.below hb,je h.own hb,ak h.b hb⟩
theorem SA (s:ByteArray)(w:World)(its:List Wd.It)(i:Nat)(K P:Int)(hs:s.size<=maxLen)(hread:Wd.aF s.data.toList=.ok its)(hi:i<its.length) :
  Calls Tryz.prog 47 #[.string s,.agg #[.int .i64 K,.int .i64 i,.int .i64 P]] w fun e w'=>qE i (isH its i) (ah its i) K P e/\Below w.heap.size w w':=by
 have HF:=hide (jP hread)
 have TY:=HF.out.len
 have HX:=fun W=>kZ s W hs
 rw[hread] at HX
 have HXX:=hide HX
 clear HX hread
 have hgb:=hide (HF.out.gb hi)
 have hbl:(ah its i).length<=300:=hgb.out.short
 have AK:=hide (fun W=>CY (isH its i) (Wd.mkS (ah its i)) W (by rw[Wd.bN];exact hbl) (by rw[Wd.fM];exact hgb.out))
 have HIT:Hid (∀(W:World) b v,W.ownsRow b 37 2 v its.length (Wd.dV its)->∃g c,v=.slice (some ⟨g,0,none⟩) its.length c/\g<W.heap.size/\W.rangeAt g (i*2) [.bool (isH its i),.string (Wd.mkS (ah its i))]):=by
  apply hide
  intro W b v h
  obtain ⟨g,cap,hv,hb,hlt,hr⟩:=fI (f:=Wd.itV) (n:=2) (L:=its) (fun _=>rfl) h (i:=i) (r:=its[i]) (List.getElem?_eq_getElem hi)
  have e1:isH its i=its[i].handler:=by simp[isH,List.getD,hi]
  have e2:ah its i=its[i].body:=by simp[ah,List.getD,hi]
  rw[e1,e2]
  exact ⟨g,cap,hv,hlt,hr.2.2⟩
 have hsz0:(Wd.mkS (ah its i)).size=(ah its i).length:=Wd.bN _
 obtain ⟨hd,hhd⟩:∃hd,isH its i=hd:=⟨_,rfl⟩
 obtain ⟨s0,hs0⟩:∃s0,Wd.mkS (ah its i)=s0:=⟨_,rfl⟩
 have hbo:ah its i=s0.data.toList:=by rw[<-hs0];rfl
 rw[hhd,hs0] at AK HIT
 rw[hhd,hbo]
 have HGB:=hide (show GB s0.data.toList by rw[<-hbo];exact hgb.out)
 have Wn:s0.size<=300:=by rw[<-hs0,hsz0];exact hbl
 clear hhd hs0 hbo hgb hbl hsz0
 have hi0:(0:Int)<=(i:Int):=by omega
 have hil:(i:Int)<(its.length:Int):=by omega
 have HR0:=hide (Row.new w #[.int .i64 K,.int .i64 (i:Int),.int .i64 P] 23)
 have HB0:=hide (aD w (.cells #[.int .i64 K,.int .i64 (i:Int),.int .i64 P] 23))
 go_enter Tryz.func47,Tryz.ntmps47
 go_wp2_with (first|(refine wpList_store_row rfl 127 _ _ rfl w2.heap.size #[.bool hd,.bool hd,.string s0,.slice (some ⟨lg,0,none⟩) s0.size s0.size,.slice kao L.length kc] rfl rfl 127 #[.bool false,.bool false,.string ⟨#[]⟩,.slice none 0 0,.slice none 0 0] ?_ Tryz.iKnown rfl (by simp[Value.oneCell']) ?_;(exact (Row.new w2 #[.bool false,.bool false,.string ⟨#[]⟩,.slice none 0 0,.slice none 0 0] 127).raw);rw[World.setRow_alloc_new];have HS3:Hid (ShI w (w2.alloc (.cells #[.bool hd,.bool hd,.string s0,.slice (some ⟨lg,0,none⟩) s0.size s0.size,.slice kao L.length kc] 127)) hd s0 lg w2.heap.size kao kc L K i P):=hide ⟨HR2.out.alloc _,Row.new _ _ _,HO2.out.alloc _,aL HB2.out _⟩;generalize w2.alloc (.cells #[.bool hd,.bool hd,.string s0,.slice (some ⟨lg,0,none⟩) s0.size s0.size,.slice kao L.length kc] 127)=w3 at *;have k4:w3.cell? ⟨w2.heap.size,4,none⟩=some (.slice kao L.length kc):=HS3.out.kr.cell 4 rfl)|(go_at_call 77;refine (AK.out _).mono ?_;rintro e w2 ⟨kv,L,lg,rfl,hown2,sG,hb2⟩;obtain ⟨kao,kc,hkv⟩:=bq hown2;subst hkv;have HFN:=hide sG;have HB2:=hide (ak HB1.out hb2);have HR2:=hide (HR1.out.below hb2);have HO2:=hide (iH hown2 (Nat.zero_le _));clear hown2 sG hb2)|(go_at_call 35;refine (HXX.out _).mono ?_;rintro e w1 ⟨hb1,g0,c0,rfl,hown1⟩;have HB1:=hide (ak HB0.out hb1);have HR1:=hide (HR0.out.below hb1);have i1:w1.cell? ⟨w.heap.size,1,none⟩=some (.int .i64 (i:Int)):=HR1.out.cell 1 rfl;obtain ⟨gi,ci,hvi,hgi,hri⟩:=HIT.out _ _ _ hown1;cases hvi;have d0:w1.cell? ⟨g0,i*2,none⟩=some (.bool hd):=hri 0 _ rfl;have d1:w1.cell? ⟨g0,i*2+1,none⟩=some (.string s0):=hri 1 _ rfl;clear hb1 hown1 hri))
 clear k4 d0 d1 i1 HXX HIT AK
 have hLl:L.length<=100000:=by have h1:=HFN.out.len HGB.out;have h2:=HGB.out.short;have h3:=Nat.mul_le_mul_right 128 (show s0.data.toList.length+1<=301 by omega);omega
 generalize w2.heap.size=gk at *
 clear HB2 HR2 HO2 HB1 HR1 HR0 HB0
 go_loopw [40] (fun a wr=>∃j:Nat,j<=L.length/\a=.int .i64 j/\ShI w wr hd s0 lg gk kao kc L K i P/\∀r∈L.take j,¬(kd hd s0.data.toList r.st≠0/\kd hd s0.data.toList r.st=K/\(r.p:Int)=P)) (fun a _=>L.length-(intOf a).toNat)
 case atStart=>exact ⟨0,by omega,rfl,HS3.out,fun r hr=>by simp at hr⟩
 case round =>
  clear HS3
  obtain ⟨j,hj,rfl,hsh,hno⟩:=hrel
  have HS:=hide hsh
  have HN:=hide hno
  clear hsh hno
  by_cases hjt:j<L.length
  ·obtain ⟨r,hr⟩:∃r,L[j]?=some r:=⟨L[j],List.getElem?_eq_getElem hjt⟩
   have HRJ:=hide hr
   have hso:=HFN.out.ok HGB.out (List.mem_of_getElem? hr)
   have hrp:r.p<=300:=by have h1:=hso.2.le;have h3:r.st.1=r.p:=rfl;have h4:=Wd.aI s0;omega
   have hrh:r.h<64:=hso.1
   obtain ⟨g1,eH,hv1,_,hg1,_,_,hr1⟩:=sj HS.out.own hr
   cases hv1
   have HR1:Hid (wr.rangeAt g1 (j*10) (rcV r)):=hide hr1
   have hj0:(0:Int)<=(j:Int):=by omega
   have hji:(j:Int)<(L.length:Int):=by omega
   have AK:Hid (∀W,Calls Tryz.prog 78 #[.agg [.bool hd,.string s0,.slice (some ⟨lg,0,none⟩) s0.size s0.size].toArray,.agg (stA r.p r.h r.off)] W fun e w'=>e=.returned (.int .i64 (kd hd s0.data.toList r.st))/\Below W.heap.size W w'):=hide (fun W=>DC hd s0 (some ⟨lg,0,none⟩) s0.size s0.size r.p r.h r.off W (by omega) (by omega) hrh HGB.out.pair)
   have HNX:Hid (¬(kd hd s0.data.toList r.st≠0/\kd hd s0.data.toList r.st=K/\(r.p:Int)=P)->∀q∈L.take (j+1),¬(kd hd s0.data.toList q.st≠0/\kd hd s0.data.toList q.st=K/\(q.p:Int)=P)):=hide (fun hn q hq=>by
    rw[List.take_add_one,hr] at hq
    rcases List.mem_append.1 hq with hq|hq
    ·exact HN.out q hq
    ·simp at hq;subst hq;exact hn)
   have HKD:Hid (kd hd s0.data.toList r.st=kd hd s0.data.toList r.st):=hide rfl
   obtain ⟨z,hz⟩:∃z,kd hd s0.data.toList r.st=z:=⟨_,rfl⟩
   rw[hz] at AK HNX
   have HZ:=hide hz
   clear hr hr1 hso hz HKD
   by_cases hz0:z=0
   ·have hn:¬(z≠0/\z=K/\(r.p:Int)=P):=fun h=>h.1 hz0
    have HHN:=hide (HNX.out hn)
    clear hn HNX
    subst hz0
    go_wp2_with (first|(refine wpList_load_mid rfl 91 _ rfl _ _ rfl (stV r) _ ?_ Tryz.underlying91 rfl (Tryz.iStV r) ?_;(exact aV.out.st8);rw[qC])|(refine wpList_load_mid rfl 88 _ rfl _ _ rfl [.bool hd,.string s0,.slice (some ⟨lg,0,none⟩) s0.size s0.size] _ ?_ Tryz.underlying88 rfl Tryz.iCode ?_;(exact rU HS1.out.kr))|(refine wpList_store_row rfl 130 _ _ rfl wr.heap.size (rcA r) rfl rfl 130 #[.int .i64 0,.bool false,.bool false,.bool false,.bool false,.bool false,.bool false,.bool false,.int .i64 0,.bool false] ?_ (Tryz.iRc _) rfl (gW _) ?_;(exact (Row.new wr #[.int .i64 0,.bool false,.bool false,.bool false,.bool false,.bool false,.bool false,.bool false,.int .i64 0,.bool false] 130).raw);rw[World.setRow_alloc_new];have HS1:=hide (HS.out.below (aD wr (.cells (rcA r) 130)));have aV:=hide (Row.new wr (rcA r) 130);generalize wr.alloc (.cells (rcA r) 130)=w1 at *;have HTK:=hide True.intro)|(refine wpList_load_mid rfl 130 _ rfl _ _ rfl (rcV r) _ ?_ Tryz.underlying130 rfl Tryz.iReached ?_;(exact HR1.out)))
    go_at_call 78
    refine (AK.out _).mono ?_
    rintro e w2 ⟨rfl,hb2⟩
    have HS2:=hide (HS1.out.below hb2)
    have bL:=hide (aV.out.below hb2)
    have y0:w2.cell? ⟨w.heap.size,0,none⟩=some (.int .i64 K):=HS2.out.rr.cell 0 rfl
    have y2:w2.cell? ⟨w.heap.size,2,none⟩=some (.int .i64 P):=HS2.out.rr.cell 2 rfl
    have y1:w2.cell? ⟨w.heap.size,1,none⟩=some (.int .i64 (i:Int)):=HS2.out.rr.cell 1 rfl
    have p0:w2.cell? ⟨wr.heap.size,0,none⟩=some (.int .i64 (r.p:Int)):=bL.out.cell 0 (fq r)
    have k4:w2.cell? ⟨gk,4,none⟩=some (.slice (some ⟨g1,0,none⟩) L.length kc):=HS2.out.kr.cell 4 rfl
    clear hb2
    go_wp2
    go_round
    case measure=>simp[intOf];omega
    case rel=>exact ⟨j+1,by omega,by go_num,HS2.out,HHN.out⟩
   have bz:(z != 0)=true:=by simp[hz0]
   have HZ0:=hide hz0
   clear hz0
   by_cases hzk:z=K
   case neg =>
    have hn:¬(z≠0/\z=K/\(r.p:Int)=P):=fun h=>hzk h.2.1
    have HHN:=hide (HNX.out hn)
    have bk:(z==K)=false:=by simp[hzk]
    clear hn HNX hzk
    go_wp2_with (first|(refine wpList_load_mid rfl 91 _ rfl _ _ rfl (stV r) _ ?_ Tryz.underlying91 rfl (Tryz.iStV r) ?_;(exact aV.out.st8);rw[qC])|(refine wpList_load_mid rfl 88 _ rfl _ _ rfl [.bool hd,.string s0,.slice (some ⟨lg,0,none⟩) s0.size s0.size] _ ?_ Tryz.underlying88 rfl Tryz.iCode ?_;(exact rU HS1.out.kr))|(refine wpList_store_row rfl 130 _ _ rfl wr.heap.size (rcA r) rfl rfl 130 #[.int .i64 0,.bool false,.bool false,.bool false,.bool false,.bool false,.bool false,.bool false,.int .i64 0,.bool false] ?_ (Tryz.iRc _) rfl (gW _) ?_;(exact (Row.new wr #[.int .i64 0,.bool false,.bool false,.bool false,.bool false,.bool false,.bool false,.bool false,.int .i64 0,.bool false] 130).raw);rw[World.setRow_alloc_new];have HS1:=hide (HS.out.below (aD wr (.cells (rcA r) 130)));have aV:=hide (Row.new wr (rcA r) 130);generalize wr.alloc (.cells (rcA r) 130)=w1 at *;have HTK:=hide True.intro)|(refine wpList_load_mid rfl 130 _ rfl _ _ rfl (rcV r) _ ?_ Tryz.underlying130 rfl Tryz.iReached ?_;(exact HR1.out)))
    go_at_call 78
    refine (AK.out _).mono ?_
    rintro e w2 ⟨rfl,hb2⟩
    have HS2:=hide (HS1.out.below hb2)
    have bL:=hide (aV.out.below hb2)
    have y0:w2.cell? ⟨w.heap.size,0,none⟩=some (.int .i64 K):=HS2.out.rr.cell 0 rfl
    have y2:w2.cell? ⟨w.heap.size,2,none⟩=some (.int .i64 P):=HS2.out.rr.cell 2 rfl
    have y1:w2.cell? ⟨w.heap.size,1,none⟩=some (.int .i64 (i:Int)):=HS2.out.rr.cell 1 rfl
    have p0:w2.cell? ⟨wr.heap.size,0,none⟩=some (.int .i64 (r.p:Int)):=bL.out.cell 0 (fq r)
    have k4:w2.cell? ⟨gk,4,none⟩=some (.slice (some ⟨g1,0,none⟩) L.length kc):=HS2.out.kr.cell 4 rfl
    clear hb2
    go_wp2
    go_round
    case measure=>simp[intOf];omega
    case rel=>exact ⟨j+1,by omega,by go_num,HS2.out,HHN.out⟩
   by_cases hpp:(r.p:Int)=P
   case neg =>
    have hn:¬(z≠0/\z=K/\(r.p:Int)=P):=fun h=>hpp h.2.2
    have HHN:=hide (HNX.out hn)
    have bp:((r.p:Int)==P)=false:=by simp[hpp]
    have bk:(z==z)=true:=by simp
    clear hn HNX hpp
    subst hzk
    go_wp2_with (first|(refine wpList_load_mid rfl 91 _ rfl _ _ rfl (stV r) _ ?_ Tryz.underlying91 rfl (Tryz.iStV r) ?_;(exact aV.out.st8);rw[qC])|(refine wpList_load_mid rfl 88 _ rfl _ _ rfl [.bool hd,.string s0,.slice (some ⟨lg,0,none⟩) s0.size s0.size] _ ?_ Tryz.underlying88 rfl Tryz.iCode ?_;(exact rU HS1.out.kr))|(refine wpList_store_row rfl 130 _ _ rfl wr.heap.size (rcA r) rfl rfl 130 #[.int .i64 0,.bool false,.bool false,.bool false,.bool false,.bool false,.bool false,.bool false,.int .i64 0,.bool false] ?_ (Tryz.iRc _) rfl (gW _) ?_;(exact (Row.new wr #[.int .i64 0,.bool false,.bool false,.bool false,.bool false,.bool false,.bool false,.bool false,.int .i64 0,.bool false] 130).raw);rw[World.setRow_alloc_new];have HS1:=hide (HS.out.below (aD wr (.cells (rcA r) 130)));have aV:=hide (Row.new wr (rcA r) 130);generalize wr.alloc (.cells (rcA r) 130)=w1 at *;have HTK:=hide True.intro)|(refine wpList_load_mid rfl 130 _ rfl _ _ rfl (rcV r) _ ?_ Tryz.underlying130 rfl Tryz.iReached ?_;(exact HR1.out)))
    go_at_call 78
    refine (AK.out _).mono ?_
    rintro e w2 ⟨rfl,hb2⟩
    have HS2:=hide (HS1.out.below hb2)
    have bL:=hide (aV.out.below hb2)
    have y0:w2.cell? ⟨w.heap.size,0,none⟩=some (.int .i64 z):=HS2.out.rr.cell 0 rfl
    have y2:w2.cell? ⟨w.heap.size,2,none⟩=some (.int .i64 P):=HS2.out.rr.cell 2 rfl
    have y1:w2.cell? ⟨w.heap.size,1,none⟩=some (.int .i64 (i:Int)):=HS2.out.rr.cell 1 rfl
    have p0:w2.cell? ⟨wr.heap.size,0,none⟩=some (.int .i64 (r.p:Int)):=bL.out.cell 0 (fq r)
    have k4:w2.cell? ⟨gk,4,none⟩=some (.slice (some ⟨g1,0,none⟩) L.length kc):=HS2.out.kr.cell 4 rfl
    clear hb2
    go_wp2
    go_round
    case measure=>simp[intOf];omega
    case rel=>exact ⟨j+1,by omega,by go_num,HS2.out,HHN.out⟩
   case pos =>
    clear HNX
    subst hzk hpp
    have AW:=hide (fun W v b (h:W.ownsRow b 130 10 v L.length (L.flatMap rcV))=>Pn W L v b j HFN.out.fr (by omega) hjt h)
    have HWM:Hid (∀q∈bV L j,q.p<=300):=hide (fun q hq=>by have h1:=(HFN.out.ok HGB.out (Rh hq)).2.le;have h3:q.st.1=q.p:=rfl;have h4:=Wd.aI s0;omega)
    have hwl:(bV L j).length<=100000:=by unfold bV;rw[List.length_reverse];have:=xQ L j j;omega
    have ASc:=hide (fun W v b h hb=>K6 i hd s0 lg (bV L j) v b W (by omega) (by omega) hwl HWM.out h hb)
    have zW:Hid (∀e,e=.returned (.tuple #[.string (Wd.mkS (iZ i s0.data.toList (bV L j))),.int .i64 0])->qE i hd s0.data.toList z (r.p:Int) e):=hide (fun e he=>⟨L,HFN.out,Or.inl ⟨j,r,HRJ.out,HZ.out,HZ0.out,rfl,he⟩⟩)
    generalize iZ i s0.data.toList (bV L j)=SC at *
    generalize bV L j=WY at *
    go_wp2_with (first|(refine wpList_load_mid rfl 91 _ rfl _ _ rfl (stV r) _ ?_ Tryz.underlying91 rfl (Tryz.iStV r) ?_;(exact aV.out.st8);rw[qC])|(refine wpList_load_mid rfl 88 _ rfl _ _ rfl [.bool hd,.string s0,.slice (some ⟨lg,0,none⟩) s0.size s0.size] _ ?_ Tryz.underlying88 rfl Tryz.iCode ?_;(exact rU HS1.out.kr))|(refine wpList_store_row rfl 130 _ _ rfl wr.heap.size (rcA r) rfl rfl 130 #[.int .i64 0,.bool false,.bool false,.bool false,.bool false,.bool false,.bool false,.bool false,.int .i64 0,.bool false] ?_ (Tryz.iRc _) rfl (gW _) ?_;(exact (Row.new wr #[.int .i64 0,.bool false,.bool false,.bool false,.bool false,.bool false,.bool false,.bool false,.int .i64 0,.bool false] 130).raw);rw[World.setRow_alloc_new];have HS1:=hide (HS.out.below (aD wr (.cells (rcA r) 130)));have aV:=hide (Row.new wr (rcA r) 130);generalize wr.alloc (.cells (rcA r) 130)=w1 at *;have HTK:=hide True.intro)|(refine wpList_load_mid rfl 130 _ rfl _ _ rfl (rcV r) _ ?_ Tryz.underlying130 rfl Tryz.iReached ?_;(exact HR1.out)))
    go_at_call 78
    refine (AK.out _).mono ?_
    rintro e w2 ⟨rfl,hb2⟩
    have HS2:=hide (HS1.out.below hb2)
    have bL:=hide (aV.out.below hb2)
    have y0:w2.cell? ⟨w.heap.size,0,none⟩=some (.int .i64 z):=HS2.out.rr.cell 0 rfl
    have y2:w2.cell? ⟨w.heap.size,2,none⟩=some (.int .i64 (r.p:Int)):=HS2.out.rr.cell 2 rfl
    have y1:w2.cell? ⟨w.heap.size,1,none⟩=some (.int .i64 (i:Int)):=HS2.out.rr.cell 1 rfl
    have p0:w2.cell? ⟨wr.heap.size,0,none⟩=some (.int .i64 (r.p:Int)):=bL.out.cell 0 (fq r)
    have k4:w2.cell? ⟨gk,4,none⟩=some (.slice (some ⟨g1,0,none⟩) L.length kc):=HS2.out.kr.cell 4 rfl
    clear hb2
    go_wp2_with fail
    go_at_call 79
    refine (AW.out _ _ _ HS2.out.own).mono ?_
    rintro e w5 ⟨ao5,cc5,rfl,hown5,hb5⟩
    have HS5:=hide (HS2.out.below hb5)
    have HO5:=hide hown5
    have U3:=hb5.size
    have y5:w5.cell? ⟨w.heap.size,1,none⟩=some (.int .i64 (i:Int)):=HS5.out.rr.cell 1 rfl
    clear hb5 hown5
    go_wp2_with (first|(refine wpList_load_mid rfl 88 _ rfl _ _ rfl [.bool hd,.string s0,.slice (some ⟨lg,0,none⟩) s0.size s0.size] _ ?_ Tryz.underlying88 rfl Tryz.iCode ?_;(exact rU HS5.out.kr)))
    go_at_call 80
    refine (ASc.out _ _ _ HO5.out U3).mono ?_
    rintro e w6 ⟨rfl,hb6⟩
    have HB6:=hide (ak HS5.out.b hb6)
    clear hb6
    go_wp2
    go_ret2
    exact ⟨zW.out _ rfl,HB6.out⟩
  ·have zW:Hid (∀e,e=.returned (.tuple #[.string (Wd.mkS []),.int .i64 8])->qE i hd s0.data.toList K P e):=hide (fun e he=>⟨L,HFN.out,Or.inr ⟨fun r hr=>HN.out r (by rw[List.take_of_length_le (by omega)];exact hr),he⟩⟩)
   go_wp2
   go_ret2
   exact ⟨zW.out _ rfl,HS.out.b⟩
end
end Go.Proofs.YtecmfdkhcffpmaaGreat
