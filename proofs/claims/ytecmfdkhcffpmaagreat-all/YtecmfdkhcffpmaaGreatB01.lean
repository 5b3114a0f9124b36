/- Pure, RefA, RefB. -/
import Derived.Below
import Derived.Test.YtecmfdkhcffpmaaGreatRows
import Derived.WalkKit
import Derived.WalkSpells
import Derived.WalkLawsBesides
namespace Go.Proofs.YtecmfdkhcffpmaaGreat
open Go.RowKit
set_option linter.unusedVariables false
set_option linter.unusedSimpArgs false
set_option linter.unusedSectionVars false
set_option maxHeartbeats 8000000
set_option maxRecDepth 100000
theorem hide {p:Prop}(h:p):Hid p:=h
theorem aO {k:IntKind}{a b:Int}(h:a=b):Ending.returned (.int k a)=.returned (.int k b):=by rw[h]
namespace Wd
def up (n:Int):Bool:=decide (65<=n/\n<=72)
def lk (n:Int):Bool:=decide (97<=n/\n<=102)
def cl (n:Int):Bool:=decide (48<=n/\n<=51)
def at_ (l:List UInt8)(i:Nat):Int:=((l[i]?.getD 0).toNat:Int)
theorem iL (l:List UInt8)(i:Nat):0<=at_ l i:=by unfold at_;omega
theorem iD (l:List UInt8)(i:Nat):at_ l i<=255:=by
 unfold at_;have:=(l[i]?.getD 0).toNat_lt;omega
theorem dz (s:ByteArray)(i:Nat)(h:i<s.size):((s[i].toNat:Nat):Int)=at_ s.data.toList i:=by
 have h':i<s.data.size:=h
 unfold at_
 rw[Array.getElem?_toList,Array.getElem?_eq_getElem h']
 rfl
theorem aI (s:ByteArray):s.data.toList.length=s.size:=Array.length_toList
def heads (l:List UInt8)(i:Nat):Bool:=decide (i+1<l.length)&&(at_ l (i+1)==123)
def first (p:Nat->Bool)(n:Nat):Option Nat:=(List.range n).find? p
def toInt:Option Nat->Int
 | some i=>(i:Int)
 | none=>-1
theorem jL {p:Nat->Bool}{n k:Nat}(hk:k<n)(hp:p k=true)(hb:∀j,j<k->p j=false):first p n=some k:=by
 unfold first
 rw[List.find?_range_eq_some]
 exact ⟨hp,by simpa using hk,fun j hj=>by simp[hb j hj]⟩
theorem lJ {p:Nat->Bool}{n:Nat}(hb:∀j,j<n->p j=false):first p n=none:=by
 unfold first
 rw[List.find?_range_eq_none]
 exact fun j hj=>by simp[hb j hj]
def mK (l:List UInt8)(c:Int)(i:Nat):Bool:=heads l i&&(at_ l i==c)
def head (l:List UInt8)(c:Int):Option Nat:=first (mK l c) l.length
def body (l:List UInt8)(i:Nat):List UInt8:=(l.drop (i+2)).takeWhile (fun c=>!(((c.toNat:Nat):Int)==125))
theorem Iu {α:Type}(p:α->Bool)(l:List α)(n:Nat)(hn:n<=l.length)(h1:∀j (hj:j<n),p (l[j]'(by omega))=true)(h2:∀hj:n<l.length,p l[n]=false):l.takeWhile p=l.take n:=by
 induction l generalizing n with
 | nil=>simp at hn;subst hn;rfl
 | cons a t ih =>
  cases n with
  | zero =>
   have:=h2 (by simp)
   simp at this
   simp[List.takeWhile,this]
  | succ n =>
   have h0:=h1 0 (by omega)
   simp at h0
   simp only[List.takeWhile,h0,List.take_succ_cons]
   rw[ih n (by simpa using hn) (fun j hj=>by have:=h1 (j+1) (by omega);simpa using this) (fun hj=>by have:=h2 (by simpa using hj);simpa using this)]
theorem Rm (l:List UInt8)(i k:Nat)(hk:i+2<=k)(hkl:k<=l.length)(h1:∀j,i+2<=j->j<k->¬at_ l j=125)(h2:k<l.length->at_ l k=125):body l i=(l.drop (i+2)).take (k-(i+2)):=by
 unfold body
 refine Iu _ _ _ ?_ ?_ ?_
 ·simp;omega
 ·intro j hj
  have:=h1 (i+2+j) (by omega) (by omega)
  unfold at_ at this
  rw[List.getElem?_eq_getElem (by omega),Option.getD_some] at this
  rw[List.getElem_drop]
  simpa using this
 ·intro hj
  have hj':k<l.length:=by simp at hj;omega
  have:=h2 hj'
  unfold at_ at this
  rw[List.getElem?_eq_getElem hj',Option.getD_some] at this
  rw[List.getElem_drop]
  have e:i+2+(k-(i+2))=k:=by omega
  simp only[e]
  simpa using this
def iO (l:List UInt8)(i:Nat):Bool :=
 up (at_ l i)&&(decide (toInt (head l (at_ l i))<0)||(heads l i&&decide (toInt (head l (at_ l i))<(i:Int))))
def fD (l:List UInt8):Option Nat:=first (iO l) l.length
theorem pV (s:ByteArray)(a b:Nat):(s.extract a b).data.toList=(s.data.toList.drop a).take (b-a):=by
 rw[ByteArray.data_extract,Array.toList_extract,List.extract_eq_take_drop]
def fT (o:List UInt8)(c:Int):Bool:=at_ o (o.length-1)==c
def opened (c:Int)(o:List UInt8):Option (Int×List UInt8) :=
 if c=43\/c=45 then some (3,o)
 else if c=114\/c=119 then some (4,o)
 else if c=60\/c=62\/c=122\/up c=true then some (2,o)
 else if c=40 then some (2,o++[40])
 else if c=91 then some (2,o++[91])
 else if c=124/\fT o 40=true then some (2,o.take (o.length-1)++[124])
 else if c=41/\fT o 124=true then some (2,o.take (o.length-1))
 else if c=93/\fT o 91=true then some (2,o.take (o.length-1))
 else if c=125/\fT o 123=true then some (0,[])
 else none
def vI (c:Int)(o:List UInt8):Int:=match opened c o with|some x=>x.1|none=>0
def vJ (c:Int)(o:List UInt8):List UInt8:=match opened c o with|some x=>x.2|none=>[]
def qx (c:Int)(o:List UInt8):Bool:=(opened c o).isSome
structure St where
 want:Int
 op:List UInt8
 items:Nat
def St.ok (st:St)(k:Nat):Prop:=st.items<=8/\st.op.length<=k+1/\(st.want=0\/st.want=1\/((st.want=2\/st.want=3\/st.want=4)/\∃r,st.op=123::r))
def gB (st:St)(c:Int):Option St :=
 if st.want=0 then (if st.items<8/\(c=116\/c=104\/up c=true) then some ⟨1,st.op,st.items+1⟩ else none)
 else if st.want=1 then (if c=123 then some ⟨2,[123],st.items⟩ else none)
 else if st.want=3 then (if lk c=true then some ⟨2,st.op,st.items⟩ else none)
 else if st.want=4 then (if cl c=true then some ⟨2,st.op,st.items⟩ else none)
 else (match opened c st.op with|some x=>some ⟨x.1,x.2,st.items⟩|none=>none)
def bt (c:UInt8):Int:=((c.toNat:Nat):Int)
def jM:List UInt8->Nat->St->Option Nat
 | [],i,st=>if st.want≠0\/st.items=0 then some i else none
 | c::r,i,st=>match gB st (bt c) with
  | none=>some i
  | some st'=>jM r (i+1) st'
def place (l:List UInt8):Option Nat:=jM l 0 ⟨0,[],0⟩
theorem drop_cons (s:ByteArray)(k:Nat)(h:k<s.size):s.data.toList.drop k=s[k]::s.data.toList.drop (k+1):=by
 have h':k<s.data.toList.length:=by rw[aI];exact h
 rw[List.drop_eq_getElem_cons h']
 rfl
theorem Bc (s:ByteArray)(k:Nat)(st:St)(h:k<s.size):jM (s.data.toList.drop k) k st=match gB st ((s[k].toNat:Nat):Int) with|none=>some k|some st'=>jM (s.data.toList.drop (k+1)) (k+1) st':=by
 rw[drop_cons s k h];rfl
theorem Iw (s:ByteArray)(k:Nat)(st:St)(h:s.size<=k)(hk:k<=s.size):jM (s.data.toList.drop k) k st=if st.want≠0\/st.items=0 then some s.size else none:=by
 have e:k=s.size:=by omega
 rw[List.drop_of_length_le (by rw[aI];exact h),e];rfl
theorem nZ {r:List UInt8}{c:Int}(h:fT (123::r) c=true)(hc:c≠123):∃a q,r=a::q:=by
 cases r with
 | nil=>exfalso;simp[fT,at_] at h;exact hc h.symm
 | cons a q=>exact ⟨a,q,rfl⟩
theorem Nt {c:Int}{o:List UInt8}{x:Int×List UInt8}{k n:Nat}(h:opened c o=some x)(ho:o.length<=k+1)(hp:∃r,o=123::r)(hn:n<=8):(⟨x.1,x.2,n⟩:St).ok (k+1):=by
 obtain ⟨r,rfl⟩:=hp
 unfold opened at h
 by_cases b1:c=43\/c=45
 ·rw[if_pos b1] at h;cases h;exact ⟨hn,by simp at ho ⊢;omega,by simp⟩
 rw[if_neg b1] at h
 by_cases b2:c=114\/c=119
 ·rw[if_pos b2] at h;cases h;exact ⟨hn,by simp at ho ⊢;omega,by simp⟩
 rw[if_neg b2] at h
 by_cases b3:c=60\/c=62\/c=122\/up c=true
 ·rw[if_pos b3] at h;cases h;exact ⟨hn,by simp at ho ⊢;omega,by simp⟩
 rw[if_neg b3] at h
 by_cases b4:c=40
 ·rw[if_pos b4] at h;cases h;exact ⟨hn,by simp at ho ⊢;omega,by simp⟩
 rw[if_neg b4] at h
 by_cases b5:c=91
 ·rw[if_pos b5] at h;cases h;exact ⟨hn,by simp at ho ⊢;omega,by simp⟩
 rw[if_neg b5] at h
 by_cases b6:c=124/\fT (123::r) 40=true
 ·obtain ⟨a,q,rfl⟩:=nZ b6.2 (by decide)
  rw[if_pos b6] at h;cases h;exact ⟨hn,by simp at ho ⊢;omega,by simp⟩
 rw[if_neg b6] at h
 by_cases b7:c=41/\fT (123::r) 124=true
 ·obtain ⟨a,q,rfl⟩:=nZ b7.2 (by decide)
  rw[if_pos b7] at h;cases h;exact ⟨hn,by simp at ho ⊢;omega,by simp⟩
 rw[if_neg b7] at h
 by_cases b8:c=93/\fT (123::r) 91=true
 ·obtain ⟨a,q,rfl⟩:=nZ b8.2 (by decide)
  rw[if_pos b8] at h;cases h;exact ⟨hn,by simp at ho ⊢;omega,by simp⟩
 rw[if_neg b8] at h
 by_cases b9:c=125/\fT (123::r) 123=true
 ·rw[if_pos b9] at h;cases h;exact ⟨hn,by simp,by simp⟩
 rw[if_neg b9] at h
 cases h
end Wd
theorem bM (n:Int)(w:World)(h0:0<=n)(h1:n<=255) :
  Calls Tryz.prog 52 #[.int .u8 n] w fun e w'=>e=.returned (.bool (Wd.up n))/\w'=w:=by
 by_cases a:65<=n<;>by_cases b:n<=72
 all_goals
  have hr:Wd.up n=decide (65<=n/\n<=72):=rfl
  simp only[a,b,and_self,and_true,true_and,and_false,false_and,decide_true,decide_false] at hr
  rw[hr]
  clear hr
  go_enter Tryz.func52,Tryz.ntmps52
  go_wp2
  go_ret
  exact ⟨by simp[a,b],rfl⟩
theorem Ew (n:Int)(w:World)(h0:0<=n)(h1:n<=255) :
  Calls Tryz.prog 53 #[.int .u8 n] w fun e w'=>e=.returned (.bool (Wd.lk n))/\w'=w:=by
 by_cases a:97<=n<;>by_cases b:n<=102
 all_goals
  have hr:Wd.lk n=decide (97<=n/\n<=102):=rfl
  simp only[a,b,and_self,and_true,true_and,and_false,false_and,decide_true,decide_false] at hr
  rw[hr]
  clear hr
  go_enter Tryz.func53,Tryz.ntmps53
  go_wp2
  go_ret
  exact ⟨by simp[a,b],rfl⟩
theorem Ey (n:Int)(w:World)(h0:0<=n)(h1:n<=255) :
  Calls Tryz.prog 54 #[.int .u8 n] w fun e w'=>e=.returned (.bool (Wd.cl n))/\w'=w:=by
 by_cases a:48<=n<;>by_cases b:n<=51
 all_goals
  have hr:Wd.cl n=decide (48<=n/\n<=51):=rfl
  simp only[a,b,and_self,and_true,true_and,and_false,false_and,decide_true,decide_false] at hr
  rw[hr]
  clear hr
  go_enter Tryz.func54,Tryz.ntmps54
  go_wp2
  go_ret
  exact ⟨by simp[a,b],rfl⟩
theorem dN (n:Int)(w:World)(h0:0<=n)(h1:n<=255) :
  Calls Tryz.prog 111 #[.int .u8 n] w fun e w'=>e=.returned (.bool (Wd.up n))/\w'=w:=by
 by_cases a:65<=n<;>by_cases b:n<=72
 all_goals
  have hr:Wd.up n=decide (65<=n/\n<=72):=rfl
  simp only[a,b,and_self,and_true,true_and,and_false,false_and,decide_true,decide_false] at hr
  rw[hr]
  clear hr
  go_enter Tryz.func111,Tryz.ntmps111
  go_wp2
  go_ret
  exact ⟨by simp[a,b];try omega,rfl⟩
theorem j6 (s:ByteArray)(i:Nat)(w:World)(hs:s.size<=100000)(hi:i<=s.size) :
  Calls Tryz.prog 57 #[.string s,.int .i64 i] w fun e w'=>e=.returned (.bool (Wd.heads s.data.toList i))/\w'=w:=by
 by_cases a:i+1<s.size
 ·have hb:=Wd.dz s (i+1) a
  have hr:Wd.heads s.data.toList i=(((s[i+1].toNat:Nat):Int)==123):=by
   rw[hb];simp[Wd.heads,a]
  rw[hr];clear hr hb
  go_enter Tryz.func57,Tryz.ntmps57
  go_wp2
  go_ret
  exact ⟨rfl,rfl⟩
 ·have hr:Wd.heads s.data.toList i=false:=by
   simp[Wd.heads,Wd.aI];omega
  rw[hr];clear hr
  go_enter Tryz.func57,Tryz.ntmps57
  go_wp2
  go_ret
  exact ⟨rfl,rfl⟩
theorem Pz (s:ByteArray)(n:Int)(k:Nat)(h:k<s.size):Wd.mK s.data.toList n k=(Wd.heads s.data.toList k&&(((s[k].toNat:Nat):Int)==n)):=by
 rw[Wd.dz s k h];rfl
theorem mF (s:ByteArray)(n:Int)(w:World)(hs:s.size<=100000)(h0:0<=n)(h1:n<=255) :
  Calls Tryz.prog 56 #[.string s,.int .u8 n] w fun e w'=>e=.returned (.int .i64 (Wd.toInt (Wd.head s.data.toList n)))/\w'=w:=by
 have HL:=hide (Wd.aI s)
 go_enter Tryz.func56,Tryz.ntmps56
 go_wp2
 go_loop [5] (fun i=>∃k:Nat,k<=s.size/\i=.int .i64 k/\(∀j,j<k->Wd.mK s.data.toList n j=false)) (fun i=>s.size-(intOf i).toNat)
 case atStart=>exact ⟨0,Nat.zero_le _,rfl,fun j hj=>by omega⟩
 case round =>
  obtain ⟨k,hk,rfl,hno⟩:=hrel
  have HN:=hide hno
  clear hno
  by_cases hlt:k<s.size
  ·have HB:=hide (Pz s n k hlt)
   cases hh:Wd.heads s.data.toList k
   ·go_wp2_with (go_at_call 57;refine (j6 _ _ _ hs (by omega)).mono ?_;rintro e w' ⟨rfl,rfl⟩)
    go_round
    case rel=>exact ⟨k+1,by omega,by go_num,fun j hj=>by
     by_cases e:j=k
     ·subst e;rw[HB.out,hh];rfl
     ·exact HN.out j (by omega)⟩
    case measure=>simp[intOf];omega
   ·by_cases hc:(((s[k].toNat:Nat):Int)==n)=true
    ·go_wp2_with (go_at_call 57;refine (j6 _ _ _ hs (by omega)).mono ?_;rintro e w' ⟨rfl,rfl⟩)
     go_ret
     refine ⟨aO ?_,rfl⟩
     rw[Wd.head,HL.out,Wd.jL hlt (by rw[HB.out,hh,hc];rfl) HN.out];rfl
    ·go_wp2_with (go_at_call 57;refine (j6 _ _ _ hs (by omega)).mono ?_;rintro e w' ⟨rfl,rfl⟩)
     go_round
     case rel=>exact ⟨k+1,by omega,by go_num,fun j hj=>by
      by_cases e:j=k
      ·subst e;rw[HB.out,hh];simpa using hc
      ·exact HN.out j (by omega)⟩
     case measure=>simp[intOf];omega
  ·go_wp2
   go_ret
   refine ⟨aO ?_,rfl⟩
   rw[Wd.head,HL.out,Wd.lJ (fun j hj=>HN.out j (by omega))];rfl
theorem vk (s:ByteArray)(i k:Nat)(hk0:i+2<=k)(hk:k<=s.size)(h1:∀j,i+2<=j->j<k->¬Wd.at_ s.data.toList j=125)(h2:k<s.size->Wd.at_ s.data.toList k=125) :
  (s.extract (i+2) k).data.toList=Wd.body s.data.toList i/\(s.extract (i+2) k).size<=s.size:=by
 constructor
 ·rw[Wd.Rm s.data.toList i k hk0 (by rw[Wd.aI];exact hk) h1 (by rw[Wd.aI];exact h2)]
  rw[Wd.pV]
 ·simp;omega
theorem rJ (s:ByteArray)(i:Nat)(w:World)(hs:s.size<=100000)(hi:i+2<=s.size) :
  Calls Tryz.prog 32 #[.string s,.int .i64 i] w fun e w'=>∃t:ByteArray,e=.returned (.string t)/\t.data.toList=Wd.body s.data.toList i/\t.size<=s.size/\w'=w:=by
 go_enter Tryz.func32,Tryz.ntmps32
 go_wp2
 go_loop [5] (fun x=>∃k:Nat,i+2<=k/\k<=s.size/\x=.int .i64 k/\(∀j,i+2<=j->j<k->¬Wd.at_ s.data.toList j=125)) (fun x=>s.size-(intOf x).toNat)
 case atStart=>exact ⟨i+2,by omega,hi,by go_num,fun j h1 h2=>by omega⟩
 case round =>
  obtain ⟨k,hk0,hk,rfl,hno⟩:=hrel
  have HN:=hide hno
  clear hno
  by_cases hlt:k<s.size
  ·have HB:=hide (Wd.dz s k hlt)
   cases hc:(((s[k].toNat:Nat):Int) != 125)
   ·go_wp2
    go_ret
    exact ⟨_,rfl,(vk s i k hk0 hk HN.out (fun _=>by rw[<-HB.out];simpa using hc)).1,(vk s i k hk0 hk HN.out (fun _=>by rw[<-HB.out];simpa using hc)).2,rfl⟩
   ·go_wp2
    go_round
    case rel=>exact ⟨k+1,by omega,by omega,by go_num,fun j h1 h2=>by
      by_cases e:j=k
      ·subst e;rw[<-HB.out];simpa using hc
      ·exact HN.out j h1 (by omega)⟩
    case measure=>simp[intOf];omega
  ·go_wp2
   go_ret
   exact ⟨_,rfl,(vk s i k hk0 hk HN.out (fun h=>absurd h hlt)).1,(vk s i k hk0 hk HN.out (fun h=>absurd h hlt)).2,rfl⟩
theorem I9 (s:ByteArray)(w:World)(hs:s.size<=100000) :
  Calls Tryz.prog 28 #[.string s] w fun e w'=>e=.returned (.int .i64 (Wd.toInt (Wd.fD s.data.toList)))/\w'=w:=by
 have HL:=hide (Wd.aI s)
 go_enter Tryz.func28,Tryz.ntmps28
 go_wp2
 go_loop [3] (fun i=>∃k:Nat,k<=s.size/\i=.int .i64 k/\(∀j,j<k->Wd.iO s.data.toList j=false)) (fun i=>s.size-(intOf i).toNat)
 case atStart=>exact ⟨0,Nat.zero_le _,rfl,fun j hj=>by omega⟩
 case round =>
  obtain ⟨k,hk,rfl,hno⟩:=hrel
  have HN:=hide hno
  clear hno
  by_cases hlt:k<s.size
  ·have HB:=hide (Wd.dz s k hlt)
   have b0:=Wd.iL s.data.toList k
   have b1:=Wd.iD s.data.toList k
   rw[<-HB.out] at b0 b1
   cases hu:Wd.up ((s[k].toNat:Nat):Int)
   ·go_wp2_with (go_at_call 52;refine (bM _ _ b0 b1).mono ?_;rintro e w' ⟨rfl,rfl⟩)
    go_round
    case rel=>exact ⟨k+1,by omega,by go_num,fun j hj=>by
     by_cases e:j=k
     ·subst e;rw[Wd.iO,<-HB.out,hu];rfl
     ·exact HN.out j (by omega)⟩
    case measure=>simp[intOf];omega
   ·have HM:Hid (Wd.iO s.data.toList k=(decide (Wd.toInt (Wd.head s.data.toList ((s[k].toNat:Nat):Int))<0)||(Wd.heads s.data.toList k&&decide (Wd.toInt (Wd.head s.data.toList ((s[k].toNat:Nat):Int))<(k:Int))))):=by
     apply hide;rw[Wd.iO,<-HB.out,hu];rfl
    generalize hx:Wd.toInt (Wd.head s.data.toList ((s[k].toNat:Nat):Int))=x at HM
    have HX:=hide hx;clear hx
    by_cases ha:x<0
    ·go_wp2_with (first|(go_at_call 52;refine (bM _ _ b0 b1).mono ?_;rintro e w' ⟨rfl,rfl⟩)|(go_at_call 56;refine (mF _ _ _ hs b0 b1).mono ?_;rw[HX.out];rintro e w' ⟨rfl,rfl⟩)|(go_at_call 57;refine (j6 _ _ _ hs (by omega)).mono ?_;rintro e w' ⟨rfl,rfl⟩))
     go_ret
     refine ⟨aO ?_,rfl⟩
     rw[Wd.fD,HL.out,Wd.jL hlt (by rw[HM.out];simp[ha]) HN.out];rfl
    ·cases hh:Wd.heads s.data.toList k
     ·go_wp2_with (first|(go_at_call 52;refine (bM _ _ b0 b1).mono ?_;rintro e w' ⟨rfl,rfl⟩)|(go_at_call 56;refine (mF _ _ _ hs b0 b1).mono ?_;rw[HX.out];rintro e w' ⟨rfl,rfl⟩)|(go_at_call 57;refine (j6 _ _ _ hs (by omega)).mono ?_;rintro e w' ⟨rfl,rfl⟩))
      go_round
      case rel=>exact ⟨k+1,by omega,by go_num,fun j hj=>by
       by_cases e:j=k
       ·subst e;rw[HM.out,hh];simp[ha]
       ·exact HN.out j (by omega)⟩
      case measure=>simp[intOf];omega
     ·by_cases hb:x<(k:Int)
      ·go_wp2_with (first|(go_at_call 52;refine (bM _ _ b0 b1).mono ?_;rintro e w' ⟨rfl,rfl⟩)|(go_at_call 56;refine (mF _ _ _ hs b0 b1).mono ?_;rw[HX.out];rintro e w' ⟨rfl,rfl⟩)|(go_at_call 57;refine (j6 _ _ _ hs (by omega)).mono ?_;rintro e w' ⟨rfl,rfl⟩))
       go_ret
       refine ⟨aO ?_,rfl⟩
       rw[Wd.fD,HL.out,Wd.jL hlt (by rw[HM.out,hh];simp[hb]) HN.out];rfl
      ·go_wp2_with (first|(go_at_call 52;refine (bM _ _ b0 b1).mono ?_;rintro e w' ⟨rfl,rfl⟩)|(go_at_call 56;refine (mF _ _ _ hs b0 b1).mono ?_;rw[HX.out];rintro e w' ⟨rfl,rfl⟩)|(go_at_call 57;refine (j6 _ _ _ hs (by omega)).mono ?_;rintro e w' ⟨rfl,rfl⟩))
       go_round
       case rel=>exact ⟨k+1,by omega,by go_num,fun j hj=>by
        by_cases e:j=k
        ·subst e;rw[HM.out,hh];simp[ha];omega
        ·exact HN.out j (by omega)⟩
       case measure=>simp[intOf];omega
  ·go_wp2
   go_ret
   refine ⟨aO ?_,rfl⟩
   rw[Wd.fD,HL.out,Wd.lJ (fun j hj=>HN.out j (by omega))];rfl
theorem Lb (s:ByteArray)(m:Nat)(w:World)(hs:s.size<=100000)(hm:s.size=m+1)  :
  Calls Tryz.prog 55 #[.int .u8 43,.string s] w fun e w'=>∃t:ByteArray,e=.returned (.tuple #[.int .i64 3,.string t,.bool true])/\t.data.toList=s.data.toList/\∃n,w'=w.drewN n:=by
 go_enter Tryz.func55,Tryz.ntmps55
 go_wp2_with (first|(go_at_call 52;refine (bM _ _ (by omega) (by omega)).mono ?_;rintro e w' ⟨rfl,rfl⟩))
 go_ret3
 exact ⟨s,rfl,rfl,0,rfl⟩
theorem Lc (s:ByteArray)(m:Nat)(w:World)(hs:s.size<=100000)(hm:s.size=m+1)  :
  Calls Tryz.prog 55 #[.int .u8 45,.string s] w fun e w'=>∃t:ByteArray,e=.returned (.tuple #[.int .i64 3,.string t,.bool true])/\t.data.toList=s.data.toList/\∃n,w'=w.drewN n:=by
 go_enter Tryz.func55,Tryz.ntmps55
 go_wp2_with (first|(go_at_call 52;refine (bM _ _ (by omega) (by omega)).mono ?_;rintro e w' ⟨rfl,rfl⟩))
 go_ret3
 exact ⟨s,rfl,rfl,0,rfl⟩
theorem JN (s:ByteArray)(m:Nat)(w:World)(hs:s.size<=100000)(hm:s.size=m+1)  :
  Calls Tryz.prog 55 #[.int .u8 114,.string s] w fun e w'=>∃t:ByteArray,e=.returned (.tuple #[.int .i64 4,.string t,.bool true])/\t.data.toList=s.data.toList/\∃n,w'=w.drewN n:=by
 go_enter Tryz.func55,Tryz.ntmps55
 go_wp2_with (first|(go_at_call 52;refine (bM _ _ (by omega) (by omega)).mono ?_;rintro e w' ⟨rfl,rfl⟩))
 go_ret3
 exact ⟨s,rfl,rfl,0,rfl⟩
theorem JO (s:ByteArray)(m:Nat)(w:World)(hs:s.size<=100000)(hm:s.size=m+1)  :
  Calls Tryz.prog 55 #[.int .u8 119,.string s] w fun e w'=>∃t:ByteArray,e=.returned (.tuple #[.int .i64 4,.string t,.bool true])/\t.data.toList=s.data.toList/\∃n,w'=w.drewN n:=by
 go_enter Tryz.func55,Tryz.ntmps55
 go_wp2_with (first|(go_at_call 52;refine (bM _ _ (by omega) (by omega)).mono ?_;rintro e w' ⟨rfl,rfl⟩))
 go_ret3
 exact ⟨s,rfl,rfl,0,rfl⟩
theorem Le (s:ByteArray)(m:Nat)(w:World)(hs:s.size<=100000)(hm:s.size=m+1)  :
  Calls Tryz.prog 55 #[.int .u8 60,.string s] w fun e w'=>∃t:ByteArray,e=.returned (.tuple #[.int .i64 2,.string t,.bool true])/\t.data.toList=s.data.toList/\∃n,w'=w.drewN n:=by
 go_enter Tryz.func55,Tryz.ntmps55
 go_wp2_with (first|(go_at_call 52;refine (bM _ _ (by omega) (by omega)).mono ?_;rintro e w' ⟨rfl,rfl⟩))
 go_ret3
 exact ⟨s,rfl,rfl,0,rfl⟩
theorem Lf (s:ByteArray)(m:Nat)(w:World)(hs:s.size<=100000)(hm:s.size=m+1)  :
  Calls Tryz.prog 55 #[.int .u8 62,.string s] w fun e w'=>∃t:ByteArray,e=.returned (.tuple #[.int .i64 2,.string t,.bool true])/\t.data.toList=s.data.toList/\∃n,w'=w.drewN n:=by
 go_enter Tryz.func55,Tryz.ntmps55
 go_wp2_with (first|(go_at_call 52;refine (bM _ _ (by omega) (by omega)).mono ?_;rintro e w' ⟨rfl,rfl⟩))
 go_ret3
 exact ⟨s,rfl,rfl,0,rfl⟩
theorem JQ (s:ByteArray)(m:Nat)(w:World)(hs:s.size<=100000)(hm:s.size=m+1)  :
  Calls Tryz.prog 55 #[.int .u8 122,.string s] w fun e w'=>∃t:ByteArray,e=.returned (.tuple #[.int .i64 2,.string t,.bool true])/\t.data.toList=s.data.toList/\∃n,w'=w.drewN n:=by
 go_enter Tryz.func55,Tryz.ntmps55
 go_wp2_with (first|(go_at_call 52;refine (bM _ _ (by omega) (by omega)).mono ?_;rintro e w' ⟨rfl,rfl⟩))
 go_ret3
 exact ⟨s,rfl,rfl,0,rfl⟩
theorem Nu (s:ByteArray)(m:Nat)(w:World)(hs:s.size<=100000)(hm:s.size=m+1)(c:Int)(h0:65<=c)(h1:c<=72) :
  Calls Tryz.prog 55 #[.int .u8 c,.string s] w fun e w'=>∃t:ByteArray,e=.returned (.tuple #[.int .i64 2,.string t,.bool true])/\t.data.toList=s.data.toList/\∃n,w'=w.drewN n:=by
 have n43:(c==43)=false:=beq_eq_false_iff_ne.2 (by omega)
 have n45:(c==45)=false:=beq_eq_false_iff_ne.2 (by omega)
 have n114:(c==114)=false:=beq_eq_false_iff_ne.2 (by omega)
 have n119:(c==119)=false:=beq_eq_false_iff_ne.2 (by omega)
 have n60:(c==60)=false:=beq_eq_false_iff_ne.2 (by omega)
 have n62:(c==62)=false:=beq_eq_false_iff_ne.2 (by omega)
 have n122:(c==122)=false:=beq_eq_false_iff_ne.2 (by omega)
 have hu:Wd.up c=true:=by simp[Wd.up];omega
 go_enter Tryz.func55,Tryz.ntmps55
 go_wp2_with (first|(go_at_call 52;refine (bM _ _ (by omega) (by omega)).mono ?_;rintro e w' ⟨rfl,rfl⟩))
 go_ret3
 exact ⟨s,rfl,rfl,0,rfl⟩
theorem Lg (s:ByteArray)(m:Nat)(w:World)(hs:s.size<=100000)(hm:s.size=m+1)  :
  Calls Tryz.prog 55 #[.int .u8 40,.string s] w fun e w'=>∃t:ByteArray,e=.returned (.tuple #[.int .i64 2,.string t,.bool true])/\t.data.toList=s.data.toList++[40]/\∃n,w'=w.drewN n:=by
 have hu:Wd.up 40=false:=by decide
 go_enter Tryz.func55,Tryz.ntmps55
 go_wp2_with (first|(go_at_call 52;refine (bM _ _ (by omega) (by omega)).mono ?_;rintro e w' ⟨rfl,rfl⟩))
 go_ret3
 exact ⟨_,rfl,by simp,0,rfl⟩
theorem Lh (s:ByteArray)(m:Nat)(w:World)(hs:s.size<=100000)(hm:s.size=m+1)  :
  Calls Tryz.prog 55 #[.int .u8 91,.string s] w fun e w'=>∃t:ByteArray,e=.returned (.tuple #[.int .i64 2,.string t,.bool true])/\t.data.toList=s.data.toList++[91]/\∃n,w'=w.drewN n:=by
 have hu:Wd.up 91=false:=by decide
 go_enter Tryz.func55,Tryz.ntmps55
 go_wp2_with (first|(go_at_call 52;refine (bM _ _ (by omega) (by omega)).mono ?_;rintro e w' ⟨rfl,rfl⟩))
 go_ret3
 exact ⟨_,rfl,by simp,0,rfl⟩
theorem Ja (s:ByteArray)(m:Nat)(w:World)(hs:s.size<=100000)(hm:s.size=m+1)(hl:((((s[m]'(by omega)).toNat:Nat):Int)==40)=true) :
  Calls Tryz.prog 55 #[.int .u8 124,.string s] w fun e w'=>∃t:ByteArray,e=.returned (.tuple #[.int .i64 2,.string t,.bool true])/\t.data.toList=s.data.toList.take m++[124]/\∃n,w'=w.drewN n:=by
 have hu:Wd.up 124=false:=by decide
 go_enter Tryz.func55,Tryz.ntmps55
 go_wp2_with (first|(go_at_call 52;refine (bM _ _ (by omega) (by omega)).mono ?_;rintro e w' ⟨rfl,rfl⟩))
 go_region
 all_goals go_wp2
 all_goals go_ret3
 all_goals (refine ⟨_,rfl,?_,1,rfl⟩;simp[Wd.pV])
theorem JR (s:ByteArray)(m:Nat)(w:World)(hs:s.size<=100000)(hm:s.size=m+1)(hl:((((s[m]'(by omega)).toNat:Nat):Int)==124)=true) :
  Calls Tryz.prog 55 #[.int .u8 41,.string s] w fun e w'=>∃t:ByteArray,e=.returned (.tuple #[.int .i64 2,.string t,.bool true])/\t.data.toList=s.data.toList.take m/\∃n,w'=w.drewN n:=by
 have hu:Wd.up 41=false:=by decide
 go_enter Tryz.func55,Tryz.ntmps55
 go_wp2_with (first|(go_at_call 52;refine (bM _ _ (by omega) (by omega)).mono ?_;rintro e w' ⟨rfl,rfl⟩))
 go_region
 all_goals go_wp2
 all_goals go_ret3
 all_goals (refine ⟨_,rfl,?_,1,rfl⟩;simp[Wd.pV])
theorem JS (s:ByteArray)(m:Nat)(w:World)(hs:s.size<=100000)(hm:s.size=m+1)(hl:((((s[m]'(by omega)).toNat:Nat):Int)==91)=true) :
  Calls Tryz.prog 55 #[.int .u8 93,.string s] w fun e w'=>∃t:ByteArray,e=.returned (.tuple #[.int .i64 2,.string t,.bool true])/\t.data.toList=s.data.toList.take m/\∃n,w'=w.drewN n:=by
 have hu:Wd.up 93=false:=by decide
 go_enter Tryz.func55,Tryz.ntmps55
 go_wp2_with (first|(go_at_call 52;refine (bM _ _ (by omega) (by omega)).mono ?_;rintro e w' ⟨rfl,rfl⟩))
 go_region
 all_goals go_wp2
 all_goals go_ret3
 all_goals (refine ⟨_,rfl,?_,1,rfl⟩;simp[Wd.pV])
theorem Jb (s:ByteArray)(m:Nat)(w:World)(hs:s.size<=100000)(hm:s.size=m+1)(hl:((((s[m]'(by omega)).toNat:Nat):Int)==123)=true) :
  Calls Tryz.prog 55 #[.int .u8 125,.string s] w fun e w'=>∃t:ByteArray,e=.returned (.tuple #[.int .i64 0,.string t,.bool true])/\t.data.toList=[]/\∃n,w'=w.drewN n:=by
 have hu:Wd.up 125=false:=by decide
 go_enter Tryz.func55,Tryz.ntmps55
 go_wp2_with (first|(go_at_call 52;refine (bM _ _ (by omega) (by omega)).mono ?_;rintro e w' ⟨rfl,rfl⟩))
 go_ret3
 exact ⟨_,rfl,by simp,0,rfl⟩
theorem Jc (s:ByteArray)(m:Nat)(w:World)(hs:s.size<=100000)(hm:s.size=m+1)(hl:((((s[m]'(by omega)).toNat:Nat):Int)==40)=false) :
  Calls Tryz.prog 55 #[.int .u8 124,.string s] w fun e w'=>∃t:ByteArray,e=.returned (.tuple #[.int .i64 0,.string t,.bool false])/\t.data.toList=[]/\∃n,w'=w.drewN n:=by
 have hu:Wd.up 124=false:=by decide
 go_enter Tryz.func55,Tryz.ntmps55
 go_wp2_with (first|(go_at_call 52;refine (bM _ _ (by omega) (by omega)).mono ?_;rintro e w' ⟨rfl,rfl⟩))
 go_ret3
 exact ⟨_,rfl,by simp,0,rfl⟩
theorem JU (s:ByteArray)(m:Nat)(w:World)(hs:s.size<=100000)(hm:s.size=m+1)(hl:((((s[m]'(by omega)).toNat:Nat):Int)==124)=false) :
  Calls Tryz.prog 55 #[.int .u8 41,.string s] w fun e w'=>∃t:ByteArray,e=.returned (.tuple #[.int .i64 0,.string t,.bool false])/\t.data.toList=[]/\∃n,w'=w.drewN n:=by
 have hu:Wd.up 41=false:=by decide
 go_enter Tryz.func55,Tryz.ntmps55
 go_wp2_with (first|(go_at_call 52;refine (bM _ _ (by omega) (by omega)).mono ?_;rintro e w' ⟨rfl,rfl⟩))
 go_ret3
 exact ⟨_,rfl,by simp,0,rfl⟩
theorem JV (s:ByteArray)(m:Nat)(w:World)(hs:s.size<=100000)(hm:s.size=m+1)(hl:((((s[m]'(by omega)).toNat:Nat):Int)==91)=false) :
  Calls Tryz.prog 55 #[.int .u8 93,.string s] w fun e w'=>∃t:ByteArray,e=.returned (.tuple #[.int .i64 0,.string t,.bool false])/\t.data.toList=[]/\∃n,w'=w.drewN n:=by
 have hu:Wd.up 93=false:=by decide
 go_enter Tryz.func55,Tryz.ntmps55
 go_wp2_with (first|(go_at_call 52;refine (bM _ _ (by omega) (by omega)).mono ?_;rintro e w' ⟨rfl,rfl⟩))
 go_ret3
 exact ⟨_,rfl,by simp,0,rfl⟩
theorem Jd (s:ByteArray)(m:Nat)(w:World)(hs:s.size<=100000)(hm:s.size=m+1)(hl:((((s[m]'(by omega)).toNat:Nat):Int)==123)=false) :
  Calls Tryz.prog 55 #[.int .u8 125,.string s] w fun e w'=>∃t:ByteArray,e=.returned (.tuple #[.int .i64 0,.string t,.bool false])/\t.data.toList=[]/\∃n,w'=w.drewN n:=by
 have hu:Wd.up 125=false:=by decide
 go_enter Tryz.func55,Tryz.ntmps55
 go_wp2_with (first|(go_at_call 52;refine (bM _ _ (by omega) (by omega)).mono ?_;rintro e w' ⟨rfl,rfl⟩))
 go_ret3
 exact ⟨_,rfl,by simp,0,rfl⟩
theorem Nv (s:ByteArray)(m:Nat)(w:World)(hs:s.size<=100000)(hm:s.size=m+1)(c:Int)(h0:0<=c)(h1:c<=255)(m43:c≠43)(m45:c≠45)(jo:c≠114)(jq:c≠119)(m60:c≠60)(m62:c≠62)(kP:c≠122)(m40:c≠40)(m91:c≠91)(mh:c≠124)(m41:c≠41)(m93:c≠93)(oN:c≠125)(hu:Wd.up c=false) :
  Calls Tryz.prog 55 #[.int .u8 c,.string s] w fun e w'=>∃t:ByteArray,e=.returned (.tuple #[.int .i64 0,.string t,.bool false])/\t.data.toList=[]/\∃n,w'=w.drewN n:=by
 have n43:(c==43)=false:=beq_eq_false_iff_ne.2 (by omega)
 have n45:(c==45)=false:=beq_eq_false_iff_ne.2 (by omega)
 have n114:(c==114)=false:=beq_eq_false_iff_ne.2 (by omega)
 have n119:(c==119)=false:=beq_eq_false_iff_ne.2 (by omega)
 have n60:(c==60)=false:=beq_eq_false_iff_ne.2 (by omega)
 have n62:(c==62)=false:=beq_eq_false_iff_ne.2 (by omega)
 have n122:(c==122)=false:=beq_eq_false_iff_ne.2 (by omega)
 have n40:(c==40)=false:=beq_eq_false_iff_ne.2 (by omega)
 have n91:(c==91)=false:=beq_eq_false_iff_ne.2 (by omega)
 have n124:(c==124)=false:=beq_eq_false_iff_ne.2 (by omega)
 have n41:(c==41)=false:=beq_eq_false_iff_ne.2 (by omega)
 have n93:(c==93)=false:=beq_eq_false_iff_ne.2 (by omega)
 have n125:(c==125)=false:=beq_eq_false_iff_ne.2 (by omega)
 clear m43 m45 jo jq m60 m62 kP m40 m91 mh m41 m93 oN
 go_enter Tryz.func55,Tryz.ntmps55
 go_wp2_with (first|(go_at_call 52;refine (bM _ _ (by omega) (by omega)).mono ?_;rintro e w' ⟨rfl,rfl⟩))
 go_ret3
 exact ⟨_,rfl,by simp,0,rfl⟩
end Go.Proofs.YtecmfdkhcffpmaaGreat
