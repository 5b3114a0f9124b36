/- Runs, PureS1, PureA1, PureA0, PureD1. -/
import Derived.Test.YtecmfdkhcffpmaaGreatB21
import Derived.Test.YtecmfdkhcffpmaaGreatRows
import Derived.Test.YtecmfdkhcffpmaaGreatB32
import Derived.ProofKit
import Derived.OpenShut
import Derived.ShutString
import Derived.Test.YtecmfdkhcffpmaaGreatB24
import Derived.Test.YtecmfdkhcffpmaaGreatB06
namespace Go.Proofs.YtecmfdkhcffpmaaGreat
open Go.RowKit
set_option linter.unusedVariables false
set_option linter.unusedSimpArgs false
set_option linter.unusedSectionVars false
set_option maxHeartbeats 8000000
set_option maxRecDepth 100000
section
open Go.ChangeShapes Go.WideShapes Go.ChangeAt Go.RowKit
open Go.ChangeMaps (open_string shut_string)
theorem OA (s:ByteArray)(au:Int)(t:ByteArray)(hs:s.size<=maxLen)(ht:t.size<=maxLen)(hc0:-9223372036854775808<=au)(hc1:au<=9223372036854775807)(w:World) :
  Calls Tryz.prog 7 #[.string s,.int .i64 au,.string t] w fun e w'=>e=.returned (.bool true)/\Below w.heap.size w w':=by
 have A1:=hide (fun W=>QB s au t W hs ht hc0 hc1)
 have A2:=hide (fun W=>Mh s au t W hs ht hc0 hc1)
 generalize (eO s.data.toList au t.data.toList).1=a at *
 generalize (eO s.data.toList au t.data.toList).2=b at *
 have hb:(b==b)=true:=by simp
 go_enter Tryz.func7,Tryz.ntmps7
 go_wp2_with (first|(go_at_call 16;refine (A1.out _).mono ?_;rintro e w1 ⟨rfl,hb1⟩;have HB1:=hide hb1;clear hb1)|(go_at_call 17;refine (A2.out _).mono ?_;rintro e w2 ⟨rfl,hb2⟩;have HB2:=hide (HB1.out.trans (hb2.mono HB1.out.size));clear hb2))
 go_ret
 exact ⟨rfl,HB2.out⟩
end
section
namespace Mc
open Wd
abbrev St3:=Nat×Nat×Bool
def stp (hd:Bool)(b:List UInt8)(s:St3)(comma:Bool):St3:=(aS hd b s.1 s.2.1 s.2.2 comma).1
inductive Rch (hd:Bool) (b:List UInt8):St3->Prop
 | begin:Rch hd b (0,0,hd)
 | step {s:St3}(h:Rch hd b s) (comma:Bool):Rch hd b (stp hd b s comma)
structure GB (b:List UInt8):Prop where
 bd:Bd b
 iq:iq b
 short:b.length<=300
theorem bH.gb {its:List It}(h:bH its){i:Nat}(hi:i<its.length):GB (ah its i):=⟨h.bd i hi,h.iq i hi,h.short i hi⟩
theorem GB.pair {b:List UInt8}(h:GB b):bG b:=qc h.bd
theorem GB.stands {b:List UInt8}(h:GB b){p:Nat}(hp:Pl b p):jS (atB b p):=by
 unfold jS
 by_cases e:p<b.length
 ·have hk:=hp.kind h.bd h.iq e
  have ha:atB b p=at_ b p:=by simp[atB,e]
  rw[ha]
  unfold iM sole at hk
  omega
 ·have ha:atB b p=101:=by simp[atB,e]
  omega
theorem GB.FV {b:List UInt8}(h:GB b){p:Nat}(hpl:Pl b p)(hp:p<b.length):atB b p≠101:=by
 have hk:=hpl.kind h.bd h.iq hp
 have ha:atB b p=at_ b p:=by simp[atB,hp]
 rw[ha]
 unfold iM sole at hk
 omega
theorem OB {b:List UInt8}(h:GB b){p:Nat}(hpl:Pl b p)(hp:p<b.length)(hh:Nat)(off comma:Bool):(aG b p hh off comma).1=behind b p comma:=by
 have hs:=h.stands hpl
 have fw:=h.FV hpl hp
 unfold jS at hs
 by_cases e43:atB b p=43
 ·simp[aG,behind,e43]
 by_cases e45:atB b p=45
 ·simp[aG,behind,e45]
 by_cases e60:atB b p=60
 ·simp[aG,behind,e60]
 by_cases e62:atB b p=62
 ·simp[aG,behind,e62]
 rw[uJ h.bd hp hh off comma (by omega)]
theorem Ei {b:List UInt8}{p:Nat}(hp:¬p<b.length)(hh:Nat)(off comma:Bool):aG b p hh off comma=(p,hh,off):=by
 have ha:atB b p=101:=by simp[atB,hp]
 simp[aG,ha]
theorem Dx {b:List UInt8}(h:bG b){p hh:Nat}{hd off comma:Bool}(hb:hh<64)(hf:aB hd b p hh off=0):(aG b p hh off comma).2.1<64:=by
 unfold aG
 by_cases e43:atB b p=43
 ·rw[if_pos e43]
  have hn:=jD h (Or.inl e43)
  refine EJ hh hb _ (by omega) ?_
  unfold aB at hf
  rw[if_pos e43,ku h (Or.inl e43)] at hf
  cases hq:holds hh (num b p).toNat
  ·exact hq
  ·rw[hq] at hf;simp at hf
 rw[if_neg e43]
 by_cases e45:atB b p=45
 ·rw[if_pos e45]
  exact Nat.lt_of_le_of_lt (Nat.sub_le _ _) hb
 rw[if_neg e45]
 repeat' split
 all_goals exact hb
def SOK (b:List UInt8)(s:St3):Prop:=s.2.1<64/\Pl b s.1
theorem SOK.stp {b:List UInt8}(hg:GB b){hd:Bool}{s:St3}(h:SOK b s)(comma:Bool):SOK b (stp hd b s comma):=by
 unfold Mc.stp aS
 by_cases hf:aB hd b s.1 s.2.1 s.2.2=0
 ·rw[if_pos hf]
  refine ⟨Dx hg.pair h.1 hf,?_⟩
  by_cases hp:s.1<b.length
  ·show Pl b (aG b s.1 s.2.1 s.2.2 comma).1
   rw[OB hg h.2 hp]
   exact uZ hg.bd s.1 h.2 hp comma
  ·show Pl b (aG b s.1 s.2.1 s.2.2 comma).1
   rw[Ei hp];exact h.2
 ·rw[if_neg hf];exact h
theorem Rch.ok {b:List UInt8}(hg:GB b){hd:Bool}{s:St3}(h:Rch hd b s):SOK b s:=by
 induction h with
 | begin=>exact ⟨by show 0<64;decide,Pl.zero b⟩
 | step _ c ih=>exact ih.stp hg c
structure Rc where
 p:Nat
 h:Nat
 off:Bool
 fr:Nat
 comma:Bool
def Rc.st (r:Rc):St3:=(r.p,r.h,r.off)
def Rc.sn (r:Rc):Nat:=Go.Proofs.YtecmfdkhcffpmaaGreat.sn r.p r.h r.off
structure RI (hd:Bool)(b:List UInt8)(L:List Rc)(i way:Nat)(f:Nat->Bool):Prop where
 head:L[0]?=some ⟨0,0,hd,0,false⟩
 back:∀(j:Nat) (r:Rc),0<j->L[j]?=some r->∃q:Rc,r.fr<j/\L[r.fr]?=some q/\r.st=stp hd b q.st r.comma
 done:∀(j:Nat) (q:Rc),L[j]?=some q->j<i->∀c,∃r∈L,r.st=stp hd b q.st c
 half:way=1->∀q:Rc,L[i]?=some q->∃r∈L,r.st=stp hd b q.st false
 seen:∀m,f m=true↔∃r∈L,r.sn=m
 nd:(L.map Rc.sn).Nodup
theorem RI.rch {hd:Bool}{b:List UInt8}{L:List Rc}{i way:Nat}{f:Nat->Bool}(h:RI hd b L i way f):∀(j:Nat) (r:Rc),L[j]?=some r->Rch hd b r.st:=by
 intro j
 induction j using Nat.strongRecOn with
 | ind j ih =>
  intro r hr
  by_cases h0:j=0
  ·subst h0
   rw[h.head] at hr
   cases hr
   exact Rch.begin
  ·obtain ⟨q,h1,h2,h3⟩:=h.back j r (by omega) hr
   rw[h3]
   exact (ih _ h1 q h2).step _
theorem RI.ok {hd:Bool}{b:List UInt8}{L:List Rc}{i way:Nat}{f:Nat->Bool}(hg:GB b)(h:RI hd b L i way f){r:Rc}(hr:r∈L):SOK b r.st:=by
 obtain ⟨j,hj⟩:=List.getElem?_of_mem hr
 exact (h.rch j r hj).ok hg
theorem yP:∀(N:Nat) (l:List Nat),l.Nodup->(∀x∈l,x<N)->l.length<=N
 | 0,l,_,h=>by
  cases l with
  | nil=>exact Nat.le_refl _
  | cons a r=>exact absurd (h a (by simp)) (by omega)
 | N+1,l,hn,h=>by
  by_cases e:N∈l
  ·have h1:=yP N (l.erase N) (hn.erase N) (fun x hx=>by
    have h2:=h x (List.mem_of_mem_erase hx)
    have h3:x≠N:=fun e=>by subst e;exact (hn.not_mem_erase hx)
    omega)
   rw[List.length_erase_of_mem e] at h1
   have:=List.length_pos_of_mem e
   omega
  ·have:=yP N l hn (fun x hx=>by
    have h2:=h x hx
    have h3:x≠N:=fun e'=>by subst e';exact e hx
    omega)
   omega
theorem RI.len {hd:Bool}{b:List UInt8}{L:List Rc}{i way:Nat}{f:Nat->Bool}(hg:GB b)(h:RI hd b L i way f):L.length<=(b.length+1)*128:=by
 have:=yP ((b.length+1)*128) (L.map Rc.sn) h.nd (fun x hx=>by
  obtain ⟨r,hr,rfl⟩:=List.mem_map.1 hx
  have hk:=h.ok hg hr
  exact zQ hk.1 hk.2.le)
 simpa using this
theorem TS {b:List UInt8}{r q:Rc}(hr:SOK b r.st)(hq:SOK b q.st)(e:r.sn=q.sn):r.st=q.st:=by
 obtain ⟨h1,h2,h3⟩:=Te hr.1 hq.1 e
 show (r.p,r.h,r.off)=(q.p,q.h,q.off)
 have h2':r.h=q.h:=h2
 rw[h1,h2',h3]
theorem RI.beg {hd:Bool}{b:List UInt8}{f:Nat->Bool}(hf:∀m,f m=decide (m=sn 0 0 hd)):RI hd b [⟨0,0,hd,0,false⟩] 0 0 f:=by
 refine ⟨rfl,fun j r hj hr=>?_,fun j q _ hj=>by omega,fun h=>by omega,fun m=>?_,by simp⟩
 ·rw[List.getElem?_eq_none (by simp;omega)] at hr;cases hr
 ·rw[hf];simp[Rc.sn];exact ⟨fun h=>h.symm,fun h=>h.symm⟩
def snS (s:St3):Nat:=sn s.1 s.2.1 s.2.2
theorem RI.Gh {hd:Bool}{b:List UInt8}{L:List Rc}{i way:Nat}{f:Nat->Bool}(hg:GB b)(h:RI hd b L i way f){s:St3}(hs:SOK b s)(hf:f (snS s)=true):∃r∈L,r.st=s:=by
 obtain ⟨r,hr,e⟩:=(h.seen _).1 hf
 refine ⟨r,hr,?_⟩
 exact TS (q:=⟨s.1,s.2.1,s.2.2,0,false⟩) (h.ok hg hr) hs e
theorem RI.same {hd:Bool}{b:List UInt8}{L:List Rc}{i way:Nat}{f:Nat->Bool}(h:RI hd b L i way f){m:Nat}(hf:f m=true):RI hd b L i way (fun x=>decide (x=m)||f x):=by
 refine ⟨h.head,h.back,h.done,h.half,fun x=>?_,h.nd⟩
 rw[<-h.seen x]
 by_cases e:x=m
 ·subst e;simp[hf]
 ·simp[e]
theorem RI.push {hd:Bool}{b:List UInt8}{L:List Rc}{i way:Nat}{f:Nat->Bool}(h:RI hd b L i way f){q:Rc}(hq:L[i]?=some q)(c:Bool){sp sh:Nat}{so:Bool}(hs:stp hd b q.st c=(sp,sh,so))(hf:f (sn sp sh so)=false) :
  RI hd b (L++[⟨sp,sh,so,i,c⟩]) i way (fun x=>decide (x=sn sp sh so)||f x):=by
 have hi:i<L.length:=(List.getElem?_eq_some_iff.1 hq).1
 have old:∀(j:Nat) (r:Rc),L[j]?=some r->(L++[(⟨sp,sh,so,i,c⟩:Rc)])[j]?=some r:=fun j r hr=>by
  rw[List.getElem?_append_left (List.getElem?_eq_some_iff.1 hr).1];exact hr
 have back:∀(j:Nat) (r:Rc),j<L.length->(L++[(⟨sp,sh,so,i,c⟩:Rc)])[j]?=some r->L[j]?=some r:=fun j r hj hr=>by
  rw[List.getElem?_append_left hj] at hr;exact hr
 refine ⟨old _ _ h.head,fun j r hj hr=>?_,fun j x hx hj cc=>?_,fun hw x hx=>?_,fun m=>?_,?_⟩
 ·by_cases hl:j<L.length
  ·obtain ⟨x,h1,h2,h3⟩:=h.back j r hj (back j r hl hr)
   exact ⟨x,h1,old _ _ h2,h3⟩
  ·rw[List.getElem?_append_right (by omega)] at hr
   have e:j-L.length=0:=by
    by_cases e:j-L.length=0
    ·exact e
    ·rw[List.getElem?_eq_none (by simp;omega)] at hr;cases hr
   rw[e] at hr
   cases hr
   exact ⟨q,by show i<j;omega,old _ _ hq,hs.symm⟩
 ·obtain ⟨r,hr,e⟩:=h.done j x (back j x (by omega) hx) hj cc
  exact ⟨r,List.mem_append_left _ hr,e⟩
 ·obtain ⟨r,hr,e⟩:=h.half hw x (back i x hi hx)
  exact ⟨r,List.mem_append_left _ hr,e⟩
 ·constructor
  ·intro hm
   simp only[Bool.or_eq_true,decide_eq_true_eq] at hm
   rcases hm with e|e
   ·exact ⟨⟨sp,sh,so,i,c⟩,List.mem_append_right _ (by simp),e.symm⟩
   ·obtain ⟨r,hr,e2⟩:=(h.seen m).1 e
    exact ⟨r,List.mem_append_left _ hr,e2⟩
  ·rintro ⟨r,hr,e⟩
   simp only[Bool.or_eq_true,decide_eq_true_eq]
   rcases List.mem_append.1 hr with hr|hr
   ·exact Or.inr ((h.seen m).2 ⟨r,hr,e⟩)
   ·have hr':r=⟨sp,sh,so,i,c⟩:=by simpa using hr
    subst hr'
    exact Or.inl e.symm
 ·rw[List.map_append,List.nodup_append]
  refine ⟨h.nd,by simp,?_⟩
  intro x hx y hy e
  subst e
  have hy':x=sn sp sh so:=by simpa [Rc.sn] using hy
  obtain ⟨r,hr,e2⟩:=List.mem_map.1 hx
  have:=(h.seen x).2 ⟨r,hr,e2⟩
  rw[hy',hf] at this
  cases this
theorem RI.to1 {hd:Bool}{b:List UInt8}{L:List Rc}{i:Nat}{f:Nat->Bool}(h:RI hd b L i 0 f){q:Rc}(hq:L[i]?=some q)(hr:∃r∈L,r.st=stp hd b q.st false):RI hd b L i 1 f :=
 ⟨h.head,h.back,h.done,fun _ x hx=>by rw[hq] at hx;cases hx;exact hr,h.seen,h.nd⟩
theorem RI.to0 {hd:Bool}{b:List UInt8}{L:List Rc}{i:Nat}{f:Nat->Bool}(h:RI hd b L i 1 f){q:Rc}(hq:L[i]?=some q)(hr:∃r∈L,r.st=stp hd b q.st true):RI hd b L (i+1) 0 f:=by
 refine ⟨h.head,h.back,fun j x hx hj c=>?_,fun h=>by omega,h.seen,h.nd⟩
 by_cases e:j=i
 ·subst e
  rw[hq] at hx;cases hx
  cases c
  ·exact h.half rfl q hq
  ·exact hr
 ·exact h.done j x hx (by omega) c
theorem RI.all {hd:Bool}{b:List UInt8}{L:List Rc}{i:Nat}{f:Nat->Bool}(h:RI hd b L i 0 f)(hi:L.length<=i)(s:St3):Rch hd b s↔∃r∈L,r.st=s:=by
 constructor
 ·intro hs
  induction hs with
  | begin=>exact ⟨_,List.mem_of_getElem? h.head,rfl⟩
  | step _ c ih =>
   obtain ⟨r,hr,e⟩:=ih
   obtain ⟨j,hj⟩:=List.getElem?_of_mem hr
   have:=(List.getElem?_eq_some_iff.1 hj).1
   obtain ⟨x,hx,ex⟩:=h.done j r hj (by omega) c
   exact ⟨x,hx,by rw[ex,e]⟩
 ·rintro ⟨r,hr,rfl⟩
  obtain ⟨j,hj⟩:=List.getElem?_of_mem hr
  exact h.rch j r hj
end Mc
end
abbrev Rp:=Int×Int×Int
abbrev Tb:=Nat->Nat->Bool
def cK (T:Tb)(a b:Nat):Tb:=fun l m=>T l m||(a.testBit l&&b.testBit m)
def upT (T:Tb)(i j:Nat)(v:Bool):Tb:=fun l m=>if l=i/\m=j then v else T l m
def fwJ (T:Tb)(k i:Nat):Nat->Tb
 | 0=>T
 | j+1=>upT (fwJ T k i j) i j (fwJ T k i j i j||(fwJ T k i j i k&&fwJ T k i j k j))
def fwI (T:Tb)(k:Nat):Nat->Tb
 | 0=>T
 | i+1=>fwJ (fwI T k i) k i 6
def fwK (T:Tb):Nat->Tb
 | 0=>T
 | k+1=>fwI (fwK T k) k 6
theorem QC (T:Tb)(i j:Nat):upT T i j (T i j)=T:=by
 funext l m
 unfold upT
 split
 ·rename_i h;rw[h.1,h.2]
 ·rfl
theorem Tn (T:Tb)(k i j:Nat)(h:(fwJ T k i j i k&&fwJ T k i j k j)=false):fwJ T k i (j+1)=fwJ T k i j:=by
 show upT (fwJ T k i j) i j (fwJ T k i j i j||(fwJ T k i j i k&&fwJ T k i j k j))=_
 rw[h,Bool.or_false,QC]
theorem RX (T:Tb)(k i j:Nat)(h:(fwJ T k i j i k&&fwJ T k i j k j)=true):fwJ T k i (j+1)=upT (fwJ T k i j) i j true:=by
 show upT (fwJ T k i j) i j (fwJ T k i j i j||(fwJ T k i j i k&&fwJ T k i j k j))=_
 rw[h,Bool.or_true]
def dP (T:Tb)(n:Nat):List Rp:=((List.range n).filter (fun l=>T l l)).map (fun l=>(6,-1,((l:Nat):Int)))
theorem Ej (T:Tb)(n:Nat)(h:T n n=true):dP T (n+1)=dP T n++[(6,-1,((n:Nat):Int))]:=by
 simp[dP,List.range_succ,List.filter_append,List.filter,h]
theorem EW (T:Tb)(n:Nat)(h:T n n=false):dP T (n+1)=dP T n:=by
 simp[dP,List.range_succ,List.filter_append,List.filter,h]
theorem qf (T:Tb)(n:Nat):(dP T n).length<=n:=by
 unfold dP
 rw[List.length_map]
 have:=List.length_filter_le (fun l=>T l l) (List.range n)
 simpa using this
def jF (T:Tb)(l n:Nat):List (Int×Int):=((List.range n).filter (fun m=>T l m)).map (fun m=>((l:Int),((m:Nat):Int)))
theorem Cc (T:Tb)(l:Nat):jF T l 0=[]:=rfl
theorem CQ (T:Tb)(l n:Nat)(h:T l n=true):jF T l (n+1)=jF T l n++[((l:Int),((n:Nat):Int))]:=by
 simp[jF,List.range_succ,List.filter_append,List.filter,h]
theorem Dy (T:Tb)(l n:Nat)(h:T l n=false):jF T l (n+1)=jF T l n:=by
 simp[jF,List.range_succ,List.filter_append,List.filter,h]
theorem xK (T:Tb)(l n:Nat):(jF T l n).length<=n:=by
 unfold jF
 rw[List.length_map]
 have:=List.length_filter_le (fun m=>T l m) (List.range n)
 simpa using this
def cO (T:Tb)(n:Nat):List (Int×Int):=(List.range n).flatMap (fun l=>jF T l 6)
theorem yt (T:Tb)(n:Nat):cO T (n+1)=cO T n++jF T n 6:=by simp[cO,List.range_succ]
theorem yQ (T:Tb)(n:Nat):(cO T n).length<=n*6:=by
 induction n with
 | zero=>simp[cO]
 | succ n ih=>rw[yt,List.length_append];have:=xK T n 6;omega
structure Vi where
 wr:Nat->Bool
 ei:Nat->Bool
def jH (v o:Vi):Bool:=(List.range 64).any (fun x=>(List.range 64).any (fun y=>v.ei x&&o.ei y&&decide (x &&& y=0)&&(v.wr x||o.wr y)))
def mH (v o:Vi)(x n:Nat):Bool:=(List.range n).any (fun y=>v.ei x&&o.ei y&&decide (x &&& y=0)&&(v.wr x||o.wr y))
def oq (v o:Vi)(n:Nat):Bool:=(List.range n).any (fun x=>mH v o x 64)
theorem xL (v o:Vi):oq v o 64=jH v o:=rfl
theorem I5 (v o:Vi)(x n:Nat):mH v o x (n+1)=(mH v o x n||(v.ei x&&o.ei n&&decide (x &&& n=0)&&(v.wr x||o.wr n))):=by
 simp[mH,List.range_succ]
theorem JC (v o:Vi)(n:Nat):oq v o (n+1)=(oq v o n||mH v o n 64):=by
 simp[oq,List.range_succ]
theorem MG {v o:Vi}{x n:Nat}(hx:x<n)(h:mH v o x 64=true):oq v o n=true:=by
 unfold oq
 rw[List.any_eq_true]
 exact ⟨x,List.mem_range.2 hx,h⟩
theorem KO {v o:Vi}{x y n:Nat}(hy:y<n)(h:(v.ei x&&o.ei y&&decide (x &&& y=0)&&(v.wr x||o.wr y))=true):mH v o x n=true:=by
 unfold mH
 rw[List.any_eq_true]
 exact ⟨y,List.mem_range.2 hy,h⟩
def eF (P:Nat->Bool)(n:Nat):List Rp:=((List.range n).filter P).map (fun c=>(7,-1,((c:Nat):Int)))
theorem El (P:Nat->Bool)(n:Nat)(h:P n=true):eF P (n+1)=eF P n++[(7,-1,((n:Nat):Int))]:=by
 simp[eF,List.range_succ,List.filter_append,List.filter,h]
theorem EX (P:Nat->Bool)(n:Nat)(h:P n=false):eF P (n+1)=eF P n:=by
 simp[eF,List.range_succ,List.filter_append,List.filter,h]
theorem qg (P:Nat->Bool)(n:Nat):(eF P n).length<=n:=by
 unfold eF
 rw[List.length_map]
 have:=List.length_filter_le P (List.range n)
 simpa using this
theorem CS (P Q:Nat->Bool)(n:Nat)(h:∀p,p<n->P p=Q p):eF P n=eF Q n:=by
 unfold eF
 rw[List.filter_congr (fun p hp=>h p (List.mem_range.1 hp))]
section
open Mc
def jk (f:Int):Int:=if f=68 then 1 else if f=85 then 2 else if f=83 then 3 else if f=69 then 4 else if f=73 then 5 else 0
theorem mZ (hd:Bool)(b:List UInt8)(p h:Nat)(off:Bool):aB hd b p h off=0\/aB hd b p h off=68\/aB hd b p h off=85\/aB hd b p h off=83\/aB hd b p h off=69\/aB hd b p h off=73:=by
 unfold aB
 repeat' split
 all_goals simp
def zS (c:Int):Int:=if c=43 then 1 else if c=45 then 2 else if c=122 then 3 else if c=60\/c=62 then 5 else if c=101 then 4 else 0
def kd (hd:Bool)(b:List UInt8)(s:St3):Int:=jk (aB hd b s.1 s.2.1 s.2.2)
theorem Ah (hd:Bool)(b:List UInt8)(s:St3):kd hd b s=0\/kd hd b s=zS (atB b s.1):=by
 unfold kd aB zS
 by_cases e43:atB b s.1=43
 ·simp only[e43,if_true]
  split<;>simp[jk]
 simp only[e43,if_false]
 by_cases e45:atB b s.1=45
 ·simp only[e45,if_true]
  split<;>simp[jk]
 simp only[e45,if_false]
 by_cases fC:atB b s.1=122
 ·simp only[fC,if_true]
  split<;>simp[jk]
 simp only[fC,if_false]
 by_cases e60:atB b s.1=60\/atB b s.1=62
 ·simp only[e60,if_true]
  split<;>simp[jk]
 simp only[e60,if_false]
 by_cases sQ:atB b s.1=101
 ·simp only[sQ,if_true]
  split<;>simp[jk]
 simp only[sQ,if_false]
 simp[jk]
theorem wN (hd:Bool)(b:List UInt8)(s:St3):0<=kd hd b s/\kd hd b s<=5:=by
 unfold kd jk
 repeat' split
 all_goals omega
def oK (hd:Bool)(b:List UInt8)(k:Int)(p:Nat):Prop:=∃h off,Rch hd b (p,h,off)/\kd hd b (p,h,off)=k
def kUp (hd:Bool)(b:List UInt8)(f:Nat->Int)(r:Rc):Nat->Int:=fun p=>if p=r.p/\kd hd b r.st≠0 then kd hd b r.st else f p
def kAt (hd:Bool)(b:List UInt8)(L:List Rc):Nat->Int:=L.foldl (kUp hd b) (fun _=>0)
theorem uU {α β:Type}(f:β->α->β)(z:β)(L:List α){i:Nat}{r:α}(h:L[i]?=some r):(L.take (i+1)).foldl f z=f ((L.take i).foldl f z) r:=by
 rw[List.take_add_one,h];simp
theorem QD {hd:Bool}{b:List UInt8}{L:List Rc}{i:Nat}{r:Rc}(h:L[i]?=some r):kAt hd b (L.take (i+1))=kUp hd b (kAt hd b (L.take i)) r:=uU _ _ L h
theorem EY (hd:Bool)(b:List UInt8)(L:List Rc)(r:Rc):kAt hd b (L++[r])=kUp hd b (kAt hd b L) r:=by simp[kAt]
theorem Tp (hd:Bool)(b:List UInt8)(p:Nat)(R:List Rc):kAt hd b R.reverse p=0\/kAt hd b R.reverse p=zS (atB b p):=by
 induction R with
 | nil=>exact Or.inl rfl
 | cons r R ih =>
  rw[List.reverse_cons,EY]
  unfold kUp
  split
  ·rename_i h
   rcases Ah hd b r.st with e|e
   ·exact absurd e h.2
   ·right;rw[e,h.1];rfl
  ·exact ih
theorem Tq (hd:Bool)(b:List UInt8)(p:Nat)(R:List Rc):kAt hd b R.reverse p≠0↔∃r∈R,r.p=p/\kd hd b r.st≠0:=by
 induction R with
 | nil=>simp[kAt]
 | cons r R ih =>
  rw[List.reverse_cons,EY]
  unfold kUp
  by_cases h:p=r.p/\kd hd b r.st≠0
  ·rw[if_pos h]
   exact ⟨fun _=>⟨r,by simp,h.1.symm,h.2⟩,fun _=>h.2⟩
  ·rw[if_neg h,ih]
   constructor
   ·rintro ⟨q,hq,e⟩;exact ⟨q,by simp[hq],e⟩
   ·rintro ⟨q,hq,e⟩
    rcases List.mem_cons.1 hq with rfl|hq
    ·exact absurd ⟨e.1.symm,e.2⟩ h
    ·exact ⟨q,hq,e⟩
theorem RY (hd:Bool)(b:List UInt8)(L:List Rc)(hL:∀s,Rch hd b s↔∃r∈L,r.st=s)(p:Nat)(k:Int)(hk:k≠0):kAt hd b L p=k↔oK hd b k p:=by
 have h1:=Tp hd b p L.reverse
 have h2:=Tq hd b p L.reverse
 rw[List.reverse_reverse] at h1 h2
 constructor
 ·intro e
  have h3:kAt hd b L p≠0:=by rw[e];exact hk
  obtain ⟨r,hr,ep,ek⟩:=h2.1 h3
  have hr':r∈L:=List.mem_reverse.1 hr
  refine ⟨r.h,r.off,(hL _).2 ⟨r,hr',by rw[<-ep];rfl⟩,?_⟩
  have:(p,r.h,r.off)=r.st:=by rw[<-ep];rfl
  rw[this]
  rcases Ah hd b r.st with e1|e1
  ·exact absurd e1 ek
  ·rcases h1 with e2|e2
   ·exact absurd e2 h3
   ·rw[e1,<-e,e2,<-ep];rfl
 ·rintro ⟨h,off,hr,e⟩
  obtain ⟨r,hr',es⟩:=(hL _).1 hr
  have h3:kAt hd b L p≠0:=h2.2 ⟨r,List.mem_reverse.2 hr',by have:=congrArg Prod.fst es;exact this,by rw[es,e];exact hk⟩
  rcases h1 with e2|e2
  ·exact absurd e2 h3
  ·rw[e2]
   rcases Ah hd b (p,h,off) with e1|e1
   ·rw[e1] at e;exact absurd e.symm hk
   ·rw[<-e,e1]
def gU (P:Nat->Bool)(k i:Nat)(n:Nat):List Rp:=((List.range n).filter P).map (fun p=>((k:Int),(i:Int),((p:Nat):Int)))
theorem Ce (P:Nat->Bool)(k i:Nat):gU P k i 0=[]:=rfl
theorem CU (P:Nat->Bool)(k i n:Nat)(h:P n=true):gU P k i (n+1)=gU P k i n++[((k:Int),(i:Int),((n:Nat):Int))]:=by
 simp[gU,List.range_succ,List.filter_append,List.filter,h]
theorem Dz (P:Nat->Bool)(k i n:Nat)(h:P n=false):gU P k i (n+1)=gU P k i n:=by
 simp[gU,List.range_succ,List.filter_append,List.filter,h]
theorem I6 (P Q:Nat->Bool)(k i n:Nat)(h:∀p,p<n->P p=Q p):gU P k i n=gU Q k i n:=by
 unfold gU
 rw[List.filter_congr (fun p hp=>h p (List.mem_range.1 hp))]
theorem xM (P:Nat->Bool)(k i n:Nat):(gU P k i n).length<=n:=by
 unfold gU
 rw[List.length_map]
 have:=List.length_filter_le P (List.range n)
 simpa using this
def dU (P:Nat->Nat->Nat->Bool)(N:Nat->Nat)(k m:Nat):List Rp:=(List.range m).flatMap (fun i=>gU (P k i) k i (N i))
theorem MH (P:Nat->Nat->Nat->Bool)(N:Nat->Nat)(k:Nat):dU P N k 0=[]:=rfl
theorem rA (P:Nat->Nat->Nat->Bool)(N:Nat->Nat)(k m:Nat):dU P N k (m+1)=dU P N k m++gU (P k m) k m (N m):=by
 simp[dU,List.range_succ]
theorem ve (P:Nat->Nat->Nat->Bool)(N:Nat->Nat)(k m:Nat)(h:∀i,i<m->N i<=301):(dU P N k m).length<=m*301:=by
 induction m with
 | zero=>simp[dU]
 | succ m ih =>
  rw[rA,List.length_append]
  have h1:=ih (fun i hi=>h i (by omega))
  have h2:=xM (P k m) k m (N m)
  have h3:=h m (by omega)
  omega
def bZ (P:Nat->Nat->Nat->Bool)(N:Nat->Nat)(m n:Nat):List Rp:=(List.range n).flatMap (fun k=>dU P N (k+1) m)
theorem rC (P:Nat->Nat->Nat->Bool)(N:Nat->Nat)(m n:Nat):bZ P N m (n+1)=bZ P N m n++dU P N (n+1) m:=by
 simp[bZ,List.range_succ]
theorem rH (P:Nat->Nat->Nat->Bool)(N:Nat->Nat)(m n:Nat)(h:∀i,i<m->N i<=301):(bZ P N m n).length<=n*(m*301):=by
 induction n with
 | zero=>simp[bZ]
 | succ n ih =>
  rw[rC,List.length_append,Nat.succ_mul]
  have:=ve P N (n+1) m h
  omega
end
section
open Mc
def eP (p s:Nat):St3:=(p,s / 2,decide (s%2=1))
def dn (h:Nat)(off:Bool):Nat:=2*h+off.toNat
theorem mO {h:Nat}(off:Bool)(hh:h<64):dn h off<128:=by cases off<;>simp[dn]<;>omega
theorem o9 (h:Nat)(off:Bool):dn h off / 2=h:=by cases off<;>simp[dn]<;>omega
theorem zK (h:Nat)(off:Bool):decide (dn h off%2=1)=off:=by cases off<;>simp[dn]<;>omega
theorem nA (p h:Nat)(off:Bool):eP p (dn h off)=(p,h,off):=by rw[eP,o9,zK]
theorem Gi (s:Nat):dn (s / 2) (decide (s%2=1))=s:=by
 unfold dn
 by_cases h:s%2=1
 ·simp[h];omega
 ·simp[h];omega
def bQ (b:List UInt8)(p s:Nat)(k:Bool):Nat×Nat:=((aG b p (s / 2) (decide (s%2=1)) k).1,dn (aG b p (s / 2) (decide (s%2=1)) k).2.1 (aG b p (s / 2) (decide (s%2=1)) k).2.2)
def wrD (hd:Bool)(b:List UInt8)(p s:Nat):Int:=aB hd b p (s / 2) (decide (s%2=1))
theorem QE {hd:Bool}{b:List UInt8}{p s:Nat}(k:Bool)(h:wrD hd b p s=0):eP (bQ b p s k).1 (bQ b p s k).2=stp hd b (eP p s) k:=by
 unfold bQ
 rw[nA]
 show _=(aS hd b p (s / 2) (decide (s%2=1)) k).1
 rw[aS,if_pos (show aB hd b p (s / 2) (decide (s%2=1))=0 from h)]
theorem MI {b:List UInt8}(hg:GB b){p h:Nat}{hd off second:Bool}(hpl:Pl b p)(hp:p<b.length)(hf:aB hd b p h off=0)(h43:atB b p≠43)(f:Fr)(hfp:f.pos=p)(hfh:f.held=h) :
  (alone b f hd off second).2.1.pos=(aG b p h off second).1/\(alone b f hd off second).2.1.held=(aG b p h off second).2.1/\(alone b f hd off second).2.2=(aG b p h off second).2.2:=by
 subst hfp;subst hfh
 unfold alone
 have hs:=hg.stands hpl
 have fw:=hg.FV hpl hp
 unfold jS at hs
 by_cases e45:atB b f.pos=45
 ·rw[if_pos e45]
  have hh:hasB f.held (aW b f.pos)=true:=by
   unfold aB at hf
   rw[if_neg h43,if_pos e45] at hf
   cases hq:hasB f.held (aW b f.pos)
   ·rw[hq] at hf;simp at hf
   ·rfl
  rw[ku hg.pair (Or.inr e45)] at hh
  rw[if_pos hh]
  simp[aG,behind,e45]
 rw[if_neg e45]
 by_cases e60:atB b f.pos=60\/atB b f.pos=62
 ·rw[if_pos e60]
  have hhd:hd=false:=by
   unfold aB at hf
   rw[if_neg h43,if_neg e45,if_neg (by omega),if_pos e60] at hf
   cases hd
   ·rfl
   ·simp at hf
  rw[if_neg (by rw[hhd];decide)]
  rcases e60 with e|e<;>simp[aG,behind,e]
 rw[if_neg e60]
 rw[uJ hg.bd hp f.held off second (by omega)]
 exact ⟨rfl,rfl,rfl⟩
abbrev DTb:=Nat->Nat->Bool
def InD (hd:Bool)(b:List UInt8)(a c:Nat):Prop:=c<128/\Rch hd b (eP a c)
theorem InD.le {hd:Bool}{b:List UInt8}(hg:GB b){a c:Nat}(h:InD hd b a c):a<=b.length:=(h.2.ok hg).2.le
theorem InD.pl {hd:Bool}{b:List UInt8}(hg:GB b){a c:Nat}(h:InD hd b a c):Pl b a:=(h.2.ok hg).2
theorem InD.fol {hd:Bool}{b:List UInt8}(hg:GB b){a c:Nat}(h:InD hd b a c)(hw:wrD hd b a c=0)(k:Bool):InD hd b (bQ b a c k).1 (bQ b a c k).2:=by
 have h1:Rch hd b (eP (bQ b a c k).1 (bQ b a c k).2):=by rw[QE k hw];exact h.2.step k
 refine ⟨?_,h1⟩
 have h2:=(h1.ok hg).1
 unfold eP at h2
 simp only at h2
 have:(bQ b a c k).2 / 2<64:=h2
 omega
def jd (F:DTb)(q t:Nat):DTb:=fun a c=>if a=q/\c=t then true else F a c
structure SwI (hd:Bool)(b:List UInt8)(F0 F:DTb)(any:Bool)(p s:Nat)(k:Nat):Prop where
 qQ:∀a c,F0 a c=true->InD hd b a c
 sub:∀a c,F a c=true->InD hd b a c
 mono:∀a c,F0 a c=true->F a c=true
 same:any=false->F=F0
 more:any=true->∃a c,F0 a c=false/\F a c=true
 closed:any=false->∀a c j,c<128->(a<p\/(a=p/\(c<s\/(c=s/\cond j 1 0<k))))->F0 a c=true->wrD hd b a c=0->F0 (bQ b a c j).1 (bQ b a c j).2=true
theorem SwI.beg {hd:Bool}{b:List UInt8}{F:DTb}(h:∀a c,F a c=true->InD hd b a c):SwI hd b F F false 0 0 0 :=
 ⟨h,h,fun _ _ h=>h,fun _=>rfl,fun h=>(by cases h),fun _ a c j _ hd=>(by cases j<;>simp at hd)⟩
theorem SwI.pass {hd:Bool}{b:List UInt8}{F0 F:DTb}{any:Bool}{p s:Nat}(h:SwI hd b F0 F any p s 0)(hc:F p s=false\/wrD hd b p s≠0):SwI hd b F0 F any p (s+1) 0:=by
 refine ⟨h.qQ,h.sub,h.mono,h.same,h.more,fun e a c j hc' hd h1 h2=>?_⟩
 by_cases e2:a=p/\c=s
 ·obtain ⟨rfl,rfl⟩:=e2
  rcases hc with hc|hc
  ·rw[h.same e] at hc;rw[hc] at h1;cases h1
  ·exact absurd h2 hc
 ·refine h.closed e a c j hc' ?_ h1 h2
  rcases hd with hd | ⟨rfl,hd | ⟨_,hd⟩⟩
  ·exact Or.inl hd
  ·refine Or.inr ⟨rfl,Or.inl ?_⟩
   have:c≠s:=fun e=>e2 ⟨rfl,e⟩
   omega
  ·omega
theorem SwI.next {hd:Bool}{b:List UInt8}{F0 F:DTb}{any:Bool}{p s:Nat}(h:SwI hd b F0 F any p s 2):SwI hd b F0 F any p (s+1) 0:=by
 refine ⟨h.qQ,h.sub,h.mono,h.same,h.more,fun e a c j hc' hd h1 h2=>h.closed e a c j hc' ?_ h1 h2⟩
 rcases hd with hd | ⟨rfl,hd | ⟨_,hd⟩⟩
 ·exact Or.inl hd
 ·refine Or.inr ⟨rfl,?_⟩
  by_cases e:c=s
  ·refine Or.inr ⟨e,?_⟩
   cases j<;>simp
  ·exact Or.inl (by omega)
 ·omega
theorem SwI.row {hd:Bool}{b:List UInt8}{F0 F:DTb}{any:Bool}{p:Nat}(h:SwI hd b F0 F any p 128 0):SwI hd b F0 F any (p+1) 0 0:=by
 refine ⟨h.qQ,h.sub,h.mono,h.same,h.more,fun e a c j hc' hd h1 h2=>h.closed e a c j hc' ?_ h1 h2⟩
 rcases hd with hd | ⟨rfl,hd | ⟨_,hd⟩⟩
 ·by_cases e:a=p
  ·exact Or.inr ⟨e,Or.inl (by omega)⟩
  ·exact Or.inl (by omega)
 ·omega
 ·omega
theorem SwI.old {hd:Bool}{b:List UInt8}{F0 F:DTb}{any:Bool}{p s:Nat}{j:Bool}(h:SwI hd b F0 F any p s (cond j 1 0))(hf:F (bQ b p s j).1 (bQ b p s j).2=true):SwI hd b F0 F any p s (cond j 1 0+1):=by
 refine ⟨h.qQ,h.sub,h.mono,h.same,h.more,fun e a c i hc' hd h1 h2=>?_⟩
 by_cases e2:a=p/\c=s/\i=j
 ·obtain ⟨rfl,rfl,rfl⟩:=e2
  rw[h.same e] at hf
  exact hf
 ·refine h.closed e a c i hc' ?_ h1 h2
  rcases hd with hd | ⟨rfl,hd | ⟨rfl,hd⟩⟩
  ·exact Or.inl hd
  ·exact Or.inr ⟨rfl,Or.inl hd⟩
  ·refine Or.inr ⟨rfl,Or.inr ⟨rfl,?_⟩⟩
   have:i≠j:=fun e=>e2 ⟨rfl,rfl,e⟩
   cases i<;>cases j<;>simp_all
theorem SwI.new {hd:Bool}{b:List UInt8}(hg:GB b){F0 F:DTb}{any:Bool}{p s:Nat}{j:Bool}(h:SwI hd b F0 F any p s (cond j 1 0))(hin:F p s=true)(hw:wrD hd b p s=0)(hf:F (bQ b p s j).1 (bQ b p s j).2=false):SwI hd b F0 (jd F (bQ b p s j).1 (bQ b p s j).2) true p s (cond j 1 0+1):=by
 have hi:=(h.sub p s hin).fol hg hw j
 refine ⟨h.qQ,fun a c hac=>?_,fun a c hac=>?_,fun e=>(by cases e),fun _=>⟨(bQ b p s j).1,(bQ b p s j).2,?_,?_⟩,fun e=>(by cases e)⟩
 ·unfold jd at hac
  by_cases e:a=(bQ b p s j).1/\c=(bQ b p s j).2
  ·rw[e.1,e.2];exact hi
  ·rw[if_neg e] at hac;exact h.sub a c hac
 ·unfold jd
  split
  ·rfl
  ·exact h.mono a c hac
 ·cases hq:F0 (bQ b p s j).1 (bQ b p s j).2
  ·rfl
  ·rw[h.mono _ _ hq] at hf;cases hf
 ·simp[jd]
theorem SwI.inS {hd:Bool}{b:List UInt8}{F0 F:DTb}{any:Bool}{p s k:Nat}(h:SwI hd b F0 F any p s k)(hin:F p s=true):InD hd b p s:=h.sub p s hin
def cntF (n:Nat)(F:DTb):Nat:=((List.range ((n+1)*128)).filter (fun x=>!F (x / 128) (x%128))).length
theorem KR {p q:Nat->Bool}(l:List Nat)(h:∀x∈l,p x=true->q x=true):(l.filter p).length<=(l.filter q).length:=by
 induction l with
 | nil=>simp
 | cons a l ih =>
  have ih':=ih (fun x hx=>h x (by simp[hx]))
  rw[List.filter_cons,List.filter_cons]
  by_cases hp:p a=true
  ·rw[if_pos hp,if_pos (h a (by simp) hp)];simp;exact ih'
  ·rw[if_neg hp]
   split
   ·simp;omega
   ·exact ih'
theorem filter_lt {p q:Nat->Bool}(l:List Nat)(h:∀x∈l,p x=true->q x=true){y:Nat}(hy:y∈l)(h1:p y=false)(h2:q y=true):(l.filter p).length<(l.filter q).length:=by
 induction l with
 | nil=>simp at hy
 | cons a l ih =>
  have h':=fun x (hx:x∈l)=>h x (by simp[hx])
  rw[List.filter_cons,List.filter_cons]
  rcases List.mem_cons.1 hy with rfl|hy
  ·rw[if_neg (by rw[h1];decide),if_pos h2]
   have:=KR l h'
   simp;omega
  ·have ih':=ih h' hy
   by_cases hp:p a=true
   ·rw[if_pos hp,if_pos (h a (by simp) hp)];simp;exact ih'
   ·rw[if_neg hp]
    split
    ·simp;omega
    ·exact ih'
theorem SwI.less {hd:Bool}{b:List UInt8}(hg:GB b){F0 F:DTb}{p s k:Nat}(h:SwI hd b F0 F true p s k):cntF b.length F<cntF b.length F0:=by
 obtain ⟨a,c,h1,h2⟩:=h.more rfl
 have hi:=h.sub a c h2
 have hle:=hi.le hg
 have hc:=hi.1
 have e1:(a*128+c) / 128=a:=by omega
 have e2:(a*128+c)%128=c:=by omega
 unfold cntF
 refine filter_lt (y:=a*128+c) _ (fun x _ hx=>?_) (List.mem_range.2 (by have:=Nat.mul_le_mul_right 128 hle;rw[Nat.succ_mul];omega)) ?_ ?_
 ·simp only[Bool.not_eq_true'] at hx ⊢
  cases hq:F0 (x / 128) (x%128)
  ·rfl
  ·rw[h.mono _ _ hq] at hx;cases hx
 ·rw[e1,e2,h2];rfl
 ·rw[e1,e2,h1];rfl
theorem SwI.whole {hd:Bool}{b:List UInt8}(hg:GB b){F0 F:DTb}(h:SwI hd b F0 F false b.length 0 0)(h0:F0 0 (dn 0 hd)=true)(a c:Nat):F a c=true↔InD hd b a c:=by
 rw[h.same rfl]
 refine ⟨h.qQ a c,?_⟩
 rintro ⟨hc,hr⟩
 have key:∀s:St3,Rch hd b s->F0 s.1 (dn s.2.1 s.2.2)=true:=by
  intro s hs
  induction hs with
  | begin=>exact h0
  | @step s hs k ih =>
   have hok:=hs.ok hg
   by_cases hw:aB hd b s.1 s.2.1 s.2.2=0
   ·have hst:Mc.stp hd b s k=aG b s.1 s.2.1 s.2.2 k:=by unfold Mc.stp aS;rw[if_pos hw]
    rw[hst]
    by_cases hp:s.1<b.length
    ·have:=h.closed rfl s.1 (dn s.2.1 s.2.2) k (mO _ hok.1) (Or.inl hp) ih (by unfold wrD;rw[o9,zK];exact hw)
     unfold bQ at this
     rw[o9,zK] at this
     exact this
    ·rw[Ei hp];exact ih
   ·have hst:Mc.stp hd b s k=s:=by unfold Mc.stp aS;rw[if_neg hw]
    rw[hst];exact ih
 have:=key _ hr
 unfold eP at this
 simp only[Gi] at this
 exact this
end
end Go.Proofs.YtecmfdkhcffpmaaGreat
