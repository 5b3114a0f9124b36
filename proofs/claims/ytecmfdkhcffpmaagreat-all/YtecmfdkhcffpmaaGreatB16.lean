/- PureK, RunK, MacG, MacH, MacF. -/
import Derived.Test.YtecmfdkhcffpmaaGreatB15
import Derived.Test.YtecmfdkhcffpmaaGreatB14
import Derived.Test.YtecmfdkhcffpmaaGreatB06
import Derived.Test.YtecmfdkhcffpmaaGreatB13
import Derived.Laws.BytesArg
import Derived.Laws.IdiomStrings
import Derived.BigRegion
namespace Go.Proofs.YtecmfdkhcffpmaaGreat
open Go.RowKit
set_option linter.unusedVariables false
set_option linter.unusedSimpArgs false
set_option linter.unusedSectionVars false
set_option maxHeartbeats 8000000
set_option maxRecDepth 100000
section
open Mc
namespace Mc
open Wd
def u8 (t:Int):UInt8:=UInt8.ofNat t.toNat
theorem Gf {t:Int}(h0:0<=t)(h1:t<=255):bt (u8 t)=t:=by
 unfold bt u8
 rw[UInt8.toNat_ofNat',Nat.mod_eq_of_lt (by omega)];omega
def cB (its:List It)(n:Nat):Ma->List UInt8->List UInt8
 | S,a::o::r=>u8 (command its S n (bt a-48).toNat (bt o)).1::(if bad (command its S n (bt a-48).toNat (bt o)).1=true then [] else cB its n (command its S n (bt a-48).toNat (bt o)).2 r)
 | _,_=>[]
def jc (l:List UInt8):Int:=match aF l with
 | .error x=>x.1
 | .ok _=>0
def refuses (l:List UInt8)(au:Int)(s:List UInt8):Int :=
 if 240<l.length\/200000<s.length then 1
 else if jc l≠0 then jc l
 else if au<1\/3<au then 6
 else if aX au s=false then 7 else 0
theorem Ju (b:List UInt8)(f:Fr)(hd off second:Bool):0<=(alone b f hd off second).1/\(alone b f hd off second).1<=255:=by
 have:=jG b f.pos
 unfold alone
 repeat' split
 all_goals simp only;omega
theorem Ku (its:List It)(S:Ma)(n c:Nat)(second:Bool):0<=(Mc.step its S n c second).1/\(Mc.step its S n c second).1<=255:=by
 unfold Mc.step
 simp only
 split
 ·simp
 split
 ·split<;>simp
 split
 ·unfold takes
  repeat' split
  all_goals simp
 split
 ·split<;>simp
 split
 ·simp
 ·exact Ju _ _ _ _ _
theorem qX (its:List It)(S:Ma)(n c:Nat)(what:Int):0<=(command its S n c what).1/\(command its S n c what).1<=255:=by
 unfold command
 split
 ·exact Ku _ _ _ _ _
 split
 ·unfold comes
  repeat' split
  all_goals simp
 split<;>simp
end Mc
def eO (l:List UInt8)(au:Int)(s:List UInt8):List UInt8×Int :=
 if refuses l au s≠0 then ([],refuses l au s)
 else match Wd.aF l with
  | .error _=>([],0)
  | .ok its=>(cB its au.toNat (aM its) s,0)
theorem Jv {l s:List UInt8}{au:Int}(h:refuses l au s=0):l.length<=240/\s.length<=200000/\1<=au/\au<=3/\aX au s=true/\∃its,Wd.aF l=.ok its:=by
 unfold refuses at h
 by_cases h1:240<l.length\/200000<s.length
 ·rw[if_pos h1] at h;cases h
 rw[if_neg h1] at h
 by_cases h2:jc l≠0
 ·rw[if_pos h2] at h;exact absurd h h2
 rw[if_neg h2] at h
 by_cases h3:au<1\/3<au
 ·rw[if_pos h3] at h;cases h
 rw[if_neg h3] at h
 cases h4:aX au s with
 | false=>rw[if_pos h4] at h;cases h
 | true =>
  refine ⟨by omega,by omega,by omega,by omega,rfl,?_⟩
  unfold jc at h2
  cases h5:Wd.aF l with
  | error x=>rw[h5] at h2;exact absurd (Wd.jf h5) h2
  | ok its=>exact ⟨its,rfl⟩
end
section
open Mc
theorem om {w:World}{base:Nat}{v:Value}{l:List UInt8}(h:w.ownsRow base 5 1 v l.length (Wd.aZ l)):(convert 63 9 v).run Tryz.prog w=.ok (.string (Wd.mkS l)) w:=by
 rcases h.2 with ⟨rfl,h0⟩ | ⟨g,cap,cur,rfl,_⟩
 ·rw[run_convert_bytes_nil w 63 5 Tryz.underlying63 Tryz.underlying5 0 0 9 Tryz.underlying9,List.eq_nil_of_length_eq_zero h0];rfl
 ·exact run_convert_bytes_back (P:=Tryz.prog) w 63 9 5 ⟨g,0,none⟩ cap l Tryz.underlying63 Tryz.underlying5 Tryz.underlying9 (DY h)
theorem Ct (its:List Wd.It)(n:Nat)(S:Ma)(s:ByteArray)(k:Nat)(h:k+1<s.size):cB its n S (s.data.toList.drop k)=u8 (command its S n (((s[k].toNat:Nat):Int)-48).toNat ((s[k+1].toNat:Nat):Int)).1::(if bad (command its S n (((s[k].toNat:Nat):Int)-48).toNat ((s[k+1].toNat:Nat):Int)).1=true then [] else cB its n (command its S n (((s[k].toNat:Nat):Int)-48).toNat ((s[k+1].toNat:Nat):Int)).2 (s.data.toList.drop (k+2))):=by
 rw[Wd.drop_cons s k (by omega),Wd.drop_cons s (k+1) h];rfl
theorem Dn (its:List Wd.It)(n:Nat)(S:Ma)(s:ByteArray)(k:Nat)(h:¬k+1<s.size):cB its n S (s.data.toList.drop k)=[]:=by
 have hl:(s.data.toList.drop k).length<=1:=by rw[List.length_drop,Wd.aI];omega
 generalize s.data.toList.drop k=l at hl
 match l,hl with
 | [],_=>rfl
 | [_],_=>rfl
theorem xE (n:Int)(s:ByteArray)(k:Nat)(h:k+1<s.size):aX n (s.data.toList.drop k)=(decide (48<=((s[k].toNat:Nat):Int))&&decide (((s[k].toNat:Nat):Int)-48<n)&&gJ ((s[k+1].toNat:Nat):Int)&&aX n (s.data.toList.drop (k+2))):=by
 rw[Wd.drop_cons s k (by omega),Wd.drop_cons s (k+1) h];rfl
theorem Cu (n:Int)(s:ByteArray)(k:Nat)(h:s.size<=k):aX n (s.data.toList.drop k)=true:=by
 rw[List.drop_of_length_le (by rw[Wd.aI];exact h)];rfl
theorem yF {n:Int}{s:ByteArray}{k:Nat}(h:k+1<s.size)(hb:aX n (s.data.toList.drop k)=true):48<=((s[k].toNat:Nat):Int)/\((s[k].toNat:Nat):Int)-48<n/\gJ ((s[k+1].toNat:Nat):Int)=true/\aX n (s.data.toList.drop (k+2))=true:=by
 rw[xE n s k h] at hb
 simp only[Bool.and_eq_true,decide_eq_true_eq] at hb
 exact ⟨hb.1.1.1,hb.1.1.2,hb.1.2,hb.2⟩
theorem Tryz.infoU8:(Tryz.prog.info? 5).map (fun i=>(i.zero,i.size,i.bytes))=some (some (.int .u8 0),1,1):=by kernel_rfl
theorem Rz (its:List Wd.It)(i:Nat)(hi:i<its.length*2):(Wd.dV its)[i]?=some (itF its i):=by
 induction its generalizing i with
 | nil=>simp at hi
 | cons x r ih =>
  have e:Wd.dV (x::r)=.bool x.handler :: .string (Wd.mkS x.body)::Wd.dV r:=rfl
  rw[e]
  match i,hi with
  | 0,_=>rfl
  | 1,_=>rfl
  | i+2,hi =>
   rw[List.getElem?_cons_succ,List.getElem?_cons_succ,ih i (by simp at hi;omega)]
   unfold itF
   rw[show (i+2)%2=i%2 by omega,show (i+2) / 2=i / 2+1 by omega]
   rfl
theorem yG {w:World}{base:Nat}{v:Value}{its:List Wd.It}(h:w.ownsRow base 37 2 v its.length (Wd.dV its)):∃ai ci,v=.slice ai its.length ci/\its.length<=ci/\ci<=maxLen/\(0<its.length->∃g,ai=some ⟨g,0,none⟩/\Blk w g (its.length*2) (itF its)):=by
 rcases h.2 with ⟨rfl,h0⟩ | ⟨g,cap,cur,rfl,hb,hg,h1,h2,h3,h4⟩
 ·exact ⟨none,0,by rw[h0],by omega,Nat.zero_le _,fun h=>by omega⟩
 ·refine ⟨some ⟨g,0,none⟩,cap,rfl,h1,h2,fun _=>⟨g,rfl,⟨_,_,hg,fun i hi=>?_⟩⟩⟩
  rw[<-Rz its i hi,<-h4,List.getElem?_take,if_pos hi,Array.getElem?_toList]
theorem vw {w:World}{B:Nat}{v:Value}{acc:List UInt8}{L:Int}(h0:0<=L)(h1:L<=255)(h:w.ownsRow B 5 1 v (acc.length+1) (Wd.aZ acc++[.int .u8 L])):w.ownsRow B 5 1 v (acc++[u8 L]).length (Wd.aZ (acc++[u8 L])):=by
 have e:Wd.aZ (acc++[u8 L])=Wd.aZ acc++[.int .u8 L]:=by simp[Wd.aZ,Gf h0 h1]
 rw[e,List.length_append];exact h
theorem ko {w w':World}{B:Nat}{e:TypeId}{size n:Nat}{v:Value}{xs:List Value}{o:Obj}(hg:(w.alloc o).grownBy w' v.ownBlock)(ho:w.ownsRow B e size v n xs):Below (min B w.heap.size) w w' :=
 ((Below.refl _ _).alloc (Nat.min_le_right _ _) o).grown hg (by simp;omega) (fun q hq=>Nat.le_trans (Nat.min_le_left _ _) (ho.lt q hq).1)
end
section
open Mc
structure Kp (A:Ad)(w w':World):Prop where
 below:Below 0 w w'
 same:∀k,k<w.heap.size->k≠A.g1->k≠A.g3->A.a2≠some ⟨k,0,none⟩->w'.heap[k]?=w.heap[k]?
theorem Kp.of {A:Ad}{w w':World}(h:Below w.heap.size w w'):Kp A w w':=⟨h.mono (Nat.zero_le _),fun k hk _ _ _=>h.block k hk⟩
theorem Kp.refl (A:Ad)(w:World):Kp A w w:=Kp.of (Below.refl _ _)
theorem Kp.size {A:Ad}{w w':World}(h:Kp A w w'):w.heap.size<=w'.heap.size:=h.below.size
theorem Kp.trans {A:Ad}{a b c:World}(h1:Kp A a b)(h2:Kp A b c):Kp A a c :=
 ⟨h1.below.trans h2.below,fun k hk e1 e2 e3=>(h2.same k (Nat.lt_of_lt_of_le hk h1.size) e1 e2 e3).trans (h1.same k hk e1 e2 e3)⟩
theorem Kp.drew {A:Ad}{a w:World}(h:Kp A a w):Kp A a w.drew:=h.trans (Kp.of ((Below.refl _ _).drew))
theorem Kp.alloc {A:Ad}{a w:World}(h:Kp A a w)(o:Obj):Kp A a (w.alloc o):=h.trans (Kp.of ((Below.refl _ _).alloc (Nat.le_refl _) o))
theorem Kp.Fq {A:Ad}{w w':World}{B:Nat}(h:Kp A w w')(hB:B<=w.heap.size)(h1:B<=A.g1)(h3:B<=A.g3)(h2:∀g,A.a2=some ⟨g,0,none⟩->B<=g):Below B w w' :=
 ⟨h.below.os,h.below.tape,h.below.output,h.below.size,fun k hk=>h.same k (by omega) (by omega) (by omega) (fun e=>by have:=h2 k e;omega)⟩
theorem Kp.nI {A:Ad}{a w:World}(h:Kp A a w)(o:Nat)(vs:List Value):Kp A a (w.setCells A.g1 o vs) :=
 h.trans ⟨Below.setCells A.g1 (Nat.zero_le _) vs o w (Below.refl _ _),fun k hk e1 e2 e3=>heap_setCells_other A.g1 vs o w k e1⟩
theorem Kp.set1 {A:Ad}{a w:World}(h:Kp A a w)(o:Nat)(v:Value):Kp A a (w.setCell ⟨A.g1,o,none⟩ v):=h.nI o [v]
theorem Kp.Gy {A:Ad}{a w:World}(h:Kp A a w)(o:Nat)(v:Value):Kp A a (w.setCell ⟨A.g3,o,none⟩ v) :=
 h.trans ⟨(Below.refl _ _).setCell (p:=⟨A.g3,o,none⟩) (Nat.zero_le _) v,fun k hk e1 e2 e3=>heap_setCell_other w ⟨A.g3,o,none⟩ k v e2⟩
theorem Kp.set2 {A:Ad}{a w:World}{g:Nat}(h:Kp A a w)(hg:A.a2=some ⟨g,0,none⟩)(o:Nat)(v:Value):Kp A a (w.setCell ⟨g,o,none⟩ v) :=
 h.trans ⟨(Below.refl _ _).setCell (p:=⟨g,o,none⟩) (Nat.zero_le _) v,fun k hk e1 e2 e3=>heap_setCell_other w ⟨g,o,none⟩ k v (by intro e;have e':k=g:=e;subst e';exact e3 hg)⟩
theorem DM.upd {w w':World}{N b:Nat}{A:Ad}{its:List Wd.It}{n:Nat}{S S':Ma}(h:DM w N b A its n S)(hk:Kp A w w')(hc:Blk w' A.g1 (n*9) (iE S'))(hr:∀g,A.a2=some ⟨g,0,none⟩->0<its.length->Blk w' g its.length (fun i=>.bool (S'.rd i)))(ha:Blk w' A.g3 its.length (fun i=>.int .i64 (S'.pl i:Int))):DM w' N b A its n S':=by
 obtain ⟨n1,n2,n3,n4⟩:=h.a2
 obtain ⟨m1,m2,m3,m4,m5,m6⟩:=h.ne
 refine ⟨h.root.same (hk.same b h.root.lt m1 m2 n1),fun hl=>?_,hc,fun hl=>?_,ha,h.ne,h.caps,h.a2⟩
 ·obtain ⟨g,e1,e2,e3,e4,e5⟩:=h.items hl
  refine ⟨g,e1,e2.same (hk.same g e2.lt e4 e5 ?_),e3,e4,e5⟩
  obtain ⟨g',k1,k2,k3,k4,k5,k6,k7⟩:=h.ready hl
  intro e;rw[k1] at e;cases e;exact k7 e1
 ·obtain ⟨g',k1,k2,k3,k4,k5,k6,k7⟩:=h.ready hl
  exact ⟨g',k1,hr g' k1 hl,k3,k4,k5,k6,k7⟩
theorem DM.zZ {w w':World}{N b:Nat}{A:Ad}{its:List Wd.It}{n:Nat}{S S':Ma}(h:DM w N b A its n S)(hk:Kp A w w')(hc:Blk w' A.g1 (n*9) (iE S'))(e1:S'.rd=S.rd)(e2:S'.pl=S.pl)(h2:∀g,g≠A.g1->g<w.heap.size->w'.heap[g]?=w.heap[g]?):DM w' N b A its n S':=by
 refine h.upd hk hc (fun g hg hl=>?_) ?_
 ·obtain ⟨g',k1,k2,k3,k4,k5,k6,k7⟩:=h.ready hl
  rw[hg] at k1;cases k1
  rw[e1];exact k2.same (h2 g k4 k2.lt)
 ·rw[e2];exact h.at_.same (h2 _ (Ne.symm h.ne.2.2.1) h.at_.lt)
theorem Kp.dm {w:World}{N b:Nat}{A:Ad}{its:List Wd.It}{n:Nat}{S:Ma}(h:DM w N b A its n S){a w':World}(hk:Kp A a w')(hN:N<=a.heap.size):Below N a w':=hk.Fq hN h.ne.2.2.2.2.1 h.ne.2.2.2.2.2 h.a2.2.2.2
theorem Qa (S:Ma)(c:Nat)(f:Fr)(i:Nat):(if c*9+4<=i then ((frV f)[i-(c*9+4)]?).getD (iE S i) else iE S i)=iE (av S c {(S.cp c) with h:=f}) i:=by
 unfold iE av
 by_cases e:i / 9=c
 ·have hi:i=c*9+i%9:=by omega
  have hm:i%9<9:=Nat.mod_lt _ (by omega)
  simp only[e,if_true]
  generalize i%9=m at *
  subst hi
  rcases m with _|_|_|_|_|_|_|_|_|m<;>first|omega|(simp[frV,cpF,Nat.add_sub_add_left];done)|(rw[if_neg (by omega)];rfl)|skip
  all_goals (rw[if_pos (by omega)];simp[frV,cpF])
 ·simp only[if_neg e]
  by_cases e2:c*9+4<=i
  ·rw[if_pos e2,List.getElem?_eq_none (by simp[frV];omega)];rfl
  ·rw[if_neg e2]
theorem Qb (S:Ma)(c:Nat)(f:Fr)(i:Nat):(if c*9<=i then ((frV f)[i-c*9]?).getD (iE S i) else iE S i)=iE (av S c {(S.cp c) with t:=f}) i:=by
 unfold iE av
 by_cases e:i / 9=c
 ·have hi:i=c*9+i%9:=by omega
  have hm:i%9<9:=Nat.mod_lt _ (by omega)
  simp only[e,if_true]
  generalize i%9=m at *
  subst hi
  rw[if_pos (by omega),Nat.add_sub_cancel_left]
  rcases m with _|_|_|_|_|_|_|_|_|m<;>first|omega|rfl
 ·simp only[if_neg e]
  by_cases e2:c*9<=i
  ·rw[if_pos e2,List.getElem?_eq_none (by simp[frV];omega)];rfl
  ·rw[if_neg e2]
theorem DM.setH {w:World}{N b:Nat}{A:Ad}{its:List Wd.It}{n:Nat}{S:Ma}(h:DM w N b A its n S)(c:Nat)(f:Fr):DM (w.setCells A.g1 (c*9+4) (frV f)) N b A its n (av S c {(S.cp c) with h:=f}) :=
 h.zZ ((Kp.refl A w).nI _ _) ((Blk.sets (frV f) (c*9+4) w _ h.au).congr fun i _=>Qa S c f i) rfl rfl (fun g hg _=>heap_setCells_other _ _ _ _ _ hg)
theorem DM.fK {w:World}{N b:Nat}{A:Ad}{its:List Wd.It}{n:Nat}{S:Ma}(h:DM w N b A its n S)(c:Nat)(f:Fr):DM (w.setCells A.g1 (c*9) (frV f)) N b A its n (av S c {(S.cp c) with t:=f}) :=
 h.zZ ((Kp.refl A w).nI _ _) ((Blk.sets (frV f) (c*9) w _ h.au).congr fun i _=>Qb S c f i) rfl rfl (fun g hg _=>heap_setCells_other _ _ _ _ _ hg)
theorem DM.drew {w:World}{N b:Nat}{A:Ad}{its:List Wd.It}{n:Nat}{S:Ma}(h:DM w N b A its n S):DM w.drew N b A its n S:=h.below ((Below.refl _ _).drew)
theorem DM.eD {w:World}{N b:Nat}{A:Ad}{its:List Wd.It}{n:Nat}{S:Ma}(h:DM w N b A its n S)(c j:Nat):w.frozen? ⟨A.g1,c*9+j,none⟩=false:=h.au.frozen _
theorem nu (w:World)(N b:Nat)(A:Ad)(its:List Wd.It)(n:Nat)(S:Ma)(c:Nat)(f:Fr)(h:DM w N b A its n S)(hc:c<n)(hn:n<=3) :
  Calls Tryz.prog 92 #[.pointer (some ⟨b,0,none⟩),.int .i64 c,.agg #[.bool f.there,.int .i64 (f.item:Int),.int .i64 (f.pos:Int),.int .i64 (f.held:Int)]] w fun e w'=>e=.returned (.tuple #[])/\DM w' N b A its n (put S c f)/\Kp A w w':=by
 have r1:∀o,(w.alloc o).cell? ⟨b,1,none⟩=some (.slice (some ⟨A.g1,0,none⟩) n A.c1):=fun o=>(h.alloc o).root.cell 1 (by omega)
 have q4:∀o,(w.alloc o).cell? ⟨A.g1,c*9+4,none⟩=some (.bool (S.cp c).h.there):=fun o=>(h.alloc o).aC c 4 hc (by omega)
 have CA:=h.caps
 unfold maxLen at CA
 cases ht:(S.cp c).h.there
 ·have q0:∀o,(w.alloc o).cell? ⟨A.g1,c*9,none⟩=some (.bool (S.cp c).t.there):=fun o=>(h.alloc o).aC c 0 hc (by omega)
  have q1:∀o,(w.alloc o).cell? ⟨A.g1,c*9+1,none⟩=some (.int .i64 ((S.cp c).t.item:Int)):=fun o=>(h.alloc o).aC c 1 hc (by omega)
  have q2:∀o,(w.alloc o).cell? ⟨A.g1,c*9+2,none⟩=some (.int .i64 ((S.cp c).t.pos:Int)):=fun o=>(h.alloc o).aC c 2 hc (by omega)
  have q3:∀o,(w.alloc o).cell? ⟨A.g1,c*9+3,none⟩=some (.int .i64 ((S.cp c).t.held:Int)):=fun o=>(h.alloc o).aC c 3 hc (by omega)
  have f0:∀o,(w.alloc o).frozen? ⟨A.g1,c*9,none⟩=false:=fun o=>(h.alloc o).eD c 0
  have f1:∀o,(w.alloc o).frozen? ⟨A.g1,c*9+1,none⟩=false:=fun o=>(h.alloc o).eD c 1
  have f2:∀o,(w.alloc o).frozen? ⟨A.g1,c*9+2,none⟩=false:=fun o=>(h.alloc o).eD c 2
  have f3:∀o,(w.alloc o).frozen? ⟨A.g1,c*9+3,none⟩=false:=fun o=>(h.alloc o).eD c 3
  rw[ht] at q4
  have HM:=hide h
  have HP:Hid (put S c f=av S c {(S.cp c) with t:=f}):=by apply hide;simp[put,ji,ht]
  clear h ht
  go_enter Tryz.func92,Tryz.ntmps92
  go_wp2_with fail
  go_region
  go_end0
  refine ⟨rfl,?_,?_⟩
  ·rw[HP.out];exact ((HM.out.alloc _).fK c f).drew
  ·exact (((Kp.refl A w).alloc _).nI (c*9) (frV f)).drew
 ·have q5:∀o,(w.alloc o).cell? ⟨A.g1,c*9+4+1,none⟩=some (.int .i64 ((S.cp c).h.item:Int)):=fun o=>(h.alloc o).aC c 5 hc (by omega)
  have q6:∀o,(w.alloc o).cell? ⟨A.g1,c*9+4+2,none⟩=some (.int .i64 ((S.cp c).h.pos:Int)):=fun o=>(h.alloc o).aC c 6 hc (by omega)
  have q7:∀o,(w.alloc o).cell? ⟨A.g1,c*9+4+3,none⟩=some (.int .i64 ((S.cp c).h.held:Int)):=fun o=>(h.alloc o).aC c 7 hc (by omega)
  have f4:∀o,(w.alloc o).frozen? ⟨A.g1,c*9+4,none⟩=false:=fun o=>(h.alloc o).eD c 4
  have f5:∀o,(w.alloc o).frozen? ⟨A.g1,c*9+4+1,none⟩=false:=fun o=>(h.alloc o).eD c 5
  have f6:∀o,(w.alloc o).frozen? ⟨A.g1,c*9+4+2,none⟩=false:=fun o=>(h.alloc o).eD c 6
  have f7:∀o,(w.alloc o).frozen? ⟨A.g1,c*9+4+3,none⟩=false:=fun o=>(h.alloc o).eD c 7
  rw[ht] at q4
  have HM:=hide h
  have HP:Hid (put S c f=av S c {(S.cp c) with h:=f}):=by apply hide;simp[put,ji,ht]
  clear h ht
  go_enter Tryz.func92,Tryz.ntmps92
  go_wp2_with fail
  go_region
  go_end0
  refine ⟨rfl,?_,?_⟩
  ·rw[HP.out];exact ((HM.out.alloc _).setH c f).drew
  ·exact (((Kp.refl A w).alloc _).nI (c*9+4) (frV f)).drew
end
section
open Mc
theorem DM.Gg {w:World}{N b:Nat}{A:Ad}{its:List Wd.It}{n:Nat}{S:Ma}(h:DM w N b A its n S)(g:Nat)(hg:A.a2=some ⟨g,0,none⟩)(i:Nat)(v:Bool):DM (w.setCell ⟨g,i,none⟩ (.bool v)) N b A its n (aQ S i v):=by
 obtain ⟨n1,n2,n3,n4⟩:=h.a2
 have e1:A.g1≠g:=fun e=>n2 (by rw[hg,e])
 have e3:A.g3≠g:=fun e=>n3 (by rw[hg,e])
 refine h.upd ((Kp.refl A w).set2 hg i _) (h.au.same (heap_setCell_other w ⟨g,i,none⟩ _ _ e1)) (fun g' hg' hl=>?_) (h.at_.same (heap_setCell_other w ⟨g,i,none⟩ _ _ e3))
 rw[hg] at hg';cases hg'
 obtain ⟨g',k1,k2,_⟩:=h.ready hl
 rw[hg] at k1;cases k1
 refine (k2.set i (.bool v)).congr fun j _=>?_
 unfold aQ;by_cases e:j=i<;>simp[e]
theorem DM.TN {w:World}{N b:Nat}{A:Ad}{its:List Wd.It}{n:Nat}{S:Ma}(h:DM w N b A its n S)(i p:Nat):DM (w.setCell ⟨A.g3,i,none⟩ (.int .i64 (p:Int))) N b A its n (bA S i p):=by
 obtain ⟨n1,n2,n3,n4⟩:=h.a2
 have e1:A.g1≠A.g3:=h.ne.2.2.1
 refine h.upd ((Kp.refl A w).Gy i _) (h.au.same (heap_setCell_other w ⟨A.g3,i,none⟩ _ _ e1)) (fun g' hg' hl=>?_) ?_
 ·obtain ⟨g'',k1,k2,_⟩:=h.ready hl
  rw[hg'] at k1;cases k1
  exact k2.same (heap_setCell_other w ⟨A.g3,i,none⟩ _ _ (fun e=>n3 (by rw[hg',e])))
 ·refine (h.at_.set i (.int .i64 (p:Int))).congr fun j _=>?_
  unfold bA;by_cases e:j=i<;>simp[e]
theorem yg (w:World)(N b:Nat)(A:Ad)(its:List Wd.It)(n:Nat)(S:Ma)(c p:Nat)(h:DM w N b A its n S)(hc:c<n)(hn:n<=3)(hi:(S.cp c).t.item<its.length) :
  Calls Tryz.prog 64 #[.pointer (some ⟨b,0,none⟩),.int .i64 c,.int .i64 p] w fun e w'=>e=.returned (.tuple #[])/\DM w' N b A its n (leaves S c p)/\Kp A w w':=by
 obtain ⟨g,hg,hr,_⟩:=h.ready (by omega)
 have CA:=h.caps
 unfold maxLen at CA
 obtain ⟨n1,n2,n3,n4⟩:=h.a2
 obtain ⟨m1,m2,m3,m4,m5,m6⟩:=h.ne
 have e1:b≠g:=fun e=>n1 (by rw[hg,e])
 have e2:A.g1≠g:=fun e=>n2 (by rw[hg,e])
 have e3:A.g3≠g:=fun e=>n3 (by rw[hg,e])
 have r1:w.cell? ⟨b,1,none⟩=some (.slice (some ⟨A.g1,0,none⟩) n A.c1):=h.root.cell 1 (by omega)
 have r2:w.cell? ⟨b,2,none⟩=some (.slice (some ⟨g,0,none⟩) its.length A.c2):=by rw[h.root.cell 2 (by omega),<-hg];rfl
 have r3:w.cell? ⟨b,3,none⟩=some (.slice (some ⟨A.g3,0,none⟩) its.length A.c3):=h.root.cell 3 (by omega)
 have q0:w.cell? ⟨A.g1,c*9,none⟩=some (.bool (S.cp c).t.there):=h.aC c 0 hc (by omega)
 have q1:w.cell? ⟨A.g1,c*9+1,none⟩=some (.int .i64 ((S.cp c).t.item:Int)):=h.aC c 1 hc (by omega)
 have q2:w.cell? ⟨A.g1,c*9+2,none⟩=some (.int .i64 ((S.cp c).t.pos:Int)):=h.aC c 2 hc (by omega)
 have q3:w.cell? ⟨A.g1,c*9+3,none⟩=some (.int .i64 ((S.cp c).t.held:Int)):=h.aC c 3 hc (by omega)
 have f0:w.frozen? ⟨A.g1,c*9,none⟩=false:=h.eD c 0
 have f1:w.frozen? ⟨A.g1,c*9+1,none⟩=false:=h.eD c 1
 have f2:w.frozen? ⟨A.g1,c*9+2,none⟩=false:=h.eD c 2
 have f3:w.frozen? ⟨A.g1,c*9+3,none⟩=false:=h.eD c 3
 have p0:w.cell? ⟨g,(S.cp c).t.item,none⟩=some (.bool (S.rd (S.cp c).t.item)):=hr.cell _ hi
 have p1:w.cell? ⟨A.g3,(S.cp c).t.item,none⟩=some (.int .i64 (S.pl (S.cp c).t.item:Int)):=h.at_.cell _ hi
 have p2:w.frozen? ⟨g,(S.cp c).t.item,none⟩=false:=hr.frozen _
 have p3:w.frozen? ⟨A.g3,(S.cp c).t.item,none⟩=false:=h.at_.frozen _
 have HM:=hide (((h.Gg g hg (S.cp c).t.item true).TN (S.cp c).t.item p).fK c aH)
 have HK:=hide (((((Kp.refl A w).set2 hg (S.cp c).t.item (.bool true)).Gy (S.cp c).t.item (.int .i64 (p:Int))).nI (c*9) (frV aH)))
 have HL:Hid (leaves S c p=av (bA (aQ S (S.cp c).t.item true) (S.cp c).t.item p) c {(S.cp c) with t:=aH}):=hide rfl
 clear h hr hg n1 n2 n3 n4
 generalize (S.cp c).t.item=i at *
 go_enter Tryz.func64,Tryz.ntmps64
 go_wp2
 go_end0
 exact ⟨rfl,by rw[HL.out];exact HM.out,HK.out⟩
end
section
open Mc
theorem Bj (its:List Wd.It)(S:Ma)(c:Nat)(x own:Int)(n d:Nat)(hd:d<n):dO its S c x own d (n-d)=if fP its S c x own d=true then true else dO its S c x own (d+1) (n-(d+1)):=by
 rw[show n-d=(n-(d+1))+1 by omega];rfl
theorem Jw {its:List Wd.It}{S:Ma}{c:Nat}{x own:Int}{n d:Nat}(hd:d<n)(h:fP its S c x own d=false):dO its S c x own d (n-d)=dO its S c x own (d+1) (n-(d+1)):=by
 rw[Bj its S c x own n d hd,h];rfl
theorem IX {its:List Wd.It}{S:Ma}{c:Nat}{x own:Int}{n d:Nat}(hd:d<n)(h:fP its S c x own d=true):dO its S c x own d (n-d)=true:=by
 rw[Bj its S c x own n d hd,h];rfl
theorem Kv (its:List Wd.It)(S:Ma)(c:Nat)(x own:Int):fP its S c x own c=false:=by simp[fP]
theorem Kw {its:List Wd.It}{S:Ma}{c:Nat}{x own:Int}{d:Nat}(h1:stands its (works S d)≠114)(h2:stands its (works S d)≠119):fP its S c x own d=false:=by simp[fP,h1,h2]
theorem NW {its:List Wd.It}{S:Ma}{c:Nat}{x own:Int}{d:Nat}(h:x≠num (ah its (works S d).item) (works S d).pos):fP its S c x own d=false:=by simp[fP,h]
theorem Mg {its:List Wd.It}{S:Ma}{c:Nat}{x own:Int}{d:Nat}(h1:own≠119)(h2:stands its (works S d)≠119):fP its S c x own d=false:=by simp[fP,h1,h2]
theorem NY {its:List Wd.It}{S:Ma}{c:Nat}{x own:Int}{d:Nat}(hd:d≠c)(hx:x=num (ah its (works S d).item) (works S d).pos)(hs:stands its (works S d)=114\/stands its (works S d)=119)(h:own=119\/stands its (works S d)=119):fP its S c x own d=true:=by
 rcases hs with hs|hs<;>rcases h with h|h<;>simp_all [fP]
theorem lq (its:List Wd.It)(ho:bf its)(i p:Nat)(w:World)(hi:i<its.length)(hp:p<=20000) :
  Calls Tryz.prog 68 #[.string (Wd.mkS (ah its i)),.int .i64 p] w fun e w'=>e=.returned (.int .u8 (atB (ah its i) p))/\w'=w:=by
 have:=lV (Wd.mkS (ah its i)) p w (by rw[Wd.bN];exact ho.body i hi) hp
 rwa [Wd.fM] at this
theorem Ee (w:World)(N b:Nat)(A:Ad)(its:List Wd.It)(n:Nat)(S:Ma)(c:Nat)(f:Fr)(h:DM w N b A its n S)(ho:bf its)(hi:Inv its n S)(hn:n<=3)(hc:c<n)(hfi:f.item<its.length)(hfp:f.pos<=20000)(hrw:atB (ah its f.item) f.pos=114\/atB (ah its f.item) f.pos=119) :
  Calls Tryz.prog 94 #[.pointer (some ⟨b,0,none⟩),.int .i64 c,.agg #[.bool f.there,.int .i64 (f.item:Int),.int .i64 (f.pos:Int),.int .i64 (f.held:Int)]] w fun e w'=>e=.returned (.bool (clash its S n c f))/\Below w.heap.size w w':=by
 have CA:=h.caps
 unfold maxLen at CA
 have HM:=hide h
 have HI:=hide hi
 have HO:=hide ho
 have ar1:=hide (fun w=>ru its ho f.item f.pos w hfi hfp (by rcases hrw with e|e<;>simp[e]))
 have ar2:=hide (fun w=>lq its ho f.item f.pos w hfi hfp)
 have HC:Hid (clash its S n c f=dO its S c (num (ah its f.item) f.pos) (atB (ah its f.item) f.pos) 0 n):=hide rfl
 have Va:=jG (ah its f.item) f.pos
 have r0:∀o,(w.alloc o).cell? ⟨b,0,none⟩=some (.slice A.ai its.length A.ci):=fun o=>(h.alloc o).root.cell 0 (by omega)
 obtain ⟨g,hg,_,_⟩:=h.bC f.item hfi
 have q1':∀o,(w.alloc o).cell? ⟨g,f.item*2+1,none⟩=some (.string (Wd.mkS (ah its f.item))):=by
  intro o
  obtain ⟨g',hg',q',_⟩:=(h.alloc o).bC f.item hfi
  rw[hg] at hg';cases hg';exact q'
 rw[hg] at r0
 have HG:=hide hg
 clear h hi ho hrw hg
 generalize clash its S n c f=R at *
 generalize num (ah its f.item) f.pos=x at *
 generalize atB (ah its f.item) f.pos=own at *
 generalize Wd.mkS (ah its f.item)=sb0 at *
 generalize f.item=fi at *
 generalize f.pos=fp at *
 go_enter Tryz.func94,Tryz.ntmps94
 go_wp2_with fail
 go_quiet (fail)
 go_wp2_with (first|(go_at_call 69;refine (ar1.out _).mono ?_;rintro e w' ⟨rfl,rfl⟩)|(go_at_call 68;refine (ar2.out _).mono ?_;rintro e w' ⟨rfl,rfl⟩))
 go_loopw [10] (fun a wr=>∃d:Nat,d<=n/\a=.int .i64 d/\R=dO its S c x own d (n-d)/\Below w.heap.size w wr) (fun a _=>n-(intOf a).toNat)
 case atStart=>exact ⟨0,by omega,rfl,HC.out,below_drewN ((Below.refl _ _).alloc (Nat.le_refl _) _) _⟩
 case round =>
  obtain ⟨d,hd,rfl,hp,hbe⟩:=hrel
  have HP:=hide hp
  have HB:=hide hbe
  clear hp hbe r0 q1'
  have HMr:=hide (HM.out.below HB.out)
  have r1:wr.cell? ⟨b,1,none⟩=some (.slice (some ⟨A.g1,0,none⟩) n A.c1):=HMr.out.root.cell 1 (by omega)
  by_cases hlt:d<n
  ·have W1:=hide (j5 wr N b A its n S d HMr.out hlt hn)
   have hok:=hide (lK HI.out d hlt)
   have NO:=hide (fun h=>Jw (its:=its) (S:=S) (c:=c) (x:=x) (own:=own) hlt h)
   have YES:=hide (fun h=>IX (its:=its) (S:=S) (c:=c) (x:=x) (own:=own) hlt h)
   have CO:=hide (Kw (its:=its) (S:=S) (c:=c) (x:=x) (own:=own) (d:=d))
   have CX:=hide (NW (its:=its) (S:=S) (c:=c) (x:=x) (own:=own) (d:=d))
   have CR:=hide (Mg (its:=its) (S:=S) (c:=c) (x:=x) (own:=own) (d:=d))
   have CW:=hide (NY (its:=its) (S:=S) (c:=c) (x:=x) (own:=own) (d:=d))
   generalize works S d=f at *
   have hf:Hid (f.there=true->f.item<its.length/\f.pos<=20000):=hide fun h=>⟨(hok.out h).1,by have:=hok.out h;have:=HO.out.body _ this.1;omega⟩
   by_cases hdc:d=c
   ·subst hdc
    have HR:=hide (NO.out (Kv its S d x own))
    have t1:((d:Int)==(d:Int))=true:=by simp
    go_wp2_with (first|(go_at_call 81;refine W1.out.mono ?_;rintro e w1 ⟨rfl,hb1⟩;have HM1:=hide (HMr.out.below hb1))|(refine wpList_store_row rfl 108 _ _ rfl _ _ rfl rfl 108 _ (heap_alloc_last _ _) Tryz.iFrame rfl (dx _) ?_;rw[World.setRow_alloc_new])|(refine wpList_load_row rfl 108 _ rfl _ rfl 108 _ (0,0) _ (heap_alloc_last _ _) Tryz.underlying108 rfl Tryz.iFrame ?_)|(go_at_call 121;refine (mr _ N b A its n S f (HM1.out.alloc _) HO.out hf.out).mono ?_;rintro e w2 ⟨rfl,hb2⟩;have HM2:=hide ((HM1.out.alloc _).below hb2);have HF2:=hide ((Blk.eB w1 f _).below hb2)))
    go_round
    case rel=>exact ⟨d+1,by omega,by go_num,by rw[HP.out,HR.out],ak (aL (ak HB.out hb1) _) hb2⟩
    case measure=>simp[intOf]<;>omega
   have t1:((d:Int)==(c:Int))=false:=by simp;omega
   by_cases hrw:stands its f=114\/stands its f=119
   ·have hth:f.there=true:=by rcases hrw with e|e<;>exact BU e (by decide)
    have hat:atB (ah its f.item) f.pos=114\/atB (ah its f.item) f.pos=119:=by simpa [stands,hth] using hrw
    have hit:=(hf.out hth).1
    have hpo:=(hf.out hth).2
    have A3:=hide (fun w=>ru its HO.out f.item f.pos w hit hpo (by rcases hat with e|e<;>simp[e]))
    clear hat hth CO
    by_cases hx:x=num (ah its f.item) f.pos
    ·have tx:(x==num (ah its f.item) f.pos)=true:=by simp[<-hx]
     by_cases iw:stands its f=114
     ·have t2:(stands its f != 114)=false:=by simp[iw]
      have t5:(stands its f==119)=false:=by simp[iw]
      by_cases hown:own=119
      ·have t4:(own==119)=true:=by simp[hown]
       have HR:=hide (YES.out (CW.out hdc hx hrw (Or.inl hown)))
       clear hx iw hown hrw
       clear NO YES CX CR CW
       go_wp2_with (first|(go_at_call 81;refine W1.out.mono ?_;rintro e w1 ⟨rfl,hb1⟩;have HM1:=hide (HMr.out.below hb1))|(refine wpList_store_row rfl 108 _ _ rfl _ _ rfl rfl 108 _ (heap_alloc_last _ _) Tryz.iFrame rfl (dx _) ?_;rw[World.setRow_alloc_new])|(refine wpList_load_row rfl 108 _ rfl _ rfl 108 _ (0,0) _ (heap_alloc_last _ _) Tryz.underlying108 rfl Tryz.iFrame ?_)|(go_at_call 121;refine (mr _ N b A its n S f (HM1.out.alloc _) HO.out hf.out).mono ?_;rintro e w2 ⟨rfl,hb2⟩;have HM2:=hide ((HM1.out.alloc _).below hb2);have HF2:=hide ((Blk.eB w1 f _).below hb2)))
       obtain ⟨g2,hg2,p1,_⟩:=HM2.out.bC f.item hit
       have p0:w2.cell? ⟨b,0,none⟩=some (.slice A.ai its.length A.ci):=HM2.out.root.cell 0 (by omega)
       rw[hg2] at p0
       have p2:w2.cell? ⟨w1.heap.size,1,none⟩=some (.int .i64 (f.item:Int)):=HF2.out.cell 1 (by omega)
       have p3:w2.cell? ⟨w1.heap.size,2,none⟩=some (.int .i64 (f.pos:Int)):=HF2.out.cell 2 (by omega)
       have HB2:=hide (ak (aL (ak HB.out hb1) _) hb2)
       clear hb2 HF2 hg2
       generalize f.item=fi2 at *
       generalize f.pos=fp2 at *
       generalize Wd.mkS (ah its fi2)=sb at *
       generalize num (ah its fi2) fp2=nm at *
       go_quiet (first|(go_at_call 69;exact Calls.quiet_of_same (A3.out _)))
       go_wp2
       all_goals (go_ret;exact ⟨bW (by rw[HP.out,HR.out]),below_drewN HB2.out _⟩)
      ·have t4:(own==119)=false:=by simp[hown]
       have HR:=hide (NO.out (CR.out hown (by rw[iw];decide)))
       clear hx iw hown hrw
       clear NO YES CX CR CW
       go_wp2_with (first|(go_at_call 81;refine W1.out.mono ?_;rintro e w1 ⟨rfl,hb1⟩;have HM1:=hide (HMr.out.below hb1))|(refine wpList_store_row rfl 108 _ _ rfl _ _ rfl rfl 108 _ (heap_alloc_last _ _) Tryz.iFrame rfl (dx _) ?_;rw[World.setRow_alloc_new])|(refine wpList_load_row rfl 108 _ rfl _ rfl 108 _ (0,0) _ (heap_alloc_last _ _) Tryz.underlying108 rfl Tryz.iFrame ?_)|(go_at_call 121;refine (mr _ N b A its n S f (HM1.out.alloc _) HO.out hf.out).mono ?_;rintro e w2 ⟨rfl,hb2⟩;have HM2:=hide ((HM1.out.alloc _).below hb2);have HF2:=hide ((Blk.eB w1 f _).below hb2)))
       obtain ⟨g2,hg2,p1,_⟩:=HM2.out.bC f.item hit
       have p0:w2.cell? ⟨b,0,none⟩=some (.slice A.ai its.length A.ci):=HM2.out.root.cell 0 (by omega)
       rw[hg2] at p0
       have p2:w2.cell? ⟨w1.heap.size,1,none⟩=some (.int .i64 (f.item:Int)):=HF2.out.cell 1 (by omega)
       have p3:w2.cell? ⟨w1.heap.size,2,none⟩=some (.int .i64 (f.pos:Int)):=HF2.out.cell 2 (by omega)
       have HB2:=hide (ak (aL (ak HB.out hb1) _) hb2)
       clear hb2 HF2 hg2
       generalize f.item=fi2 at *
       generalize f.pos=fp2 at *
       generalize Wd.mkS (ah its fi2)=sb at *
       generalize num (ah its fi2) fp2=nm at *
       go_quiet (first|(go_at_call 69;exact Calls.quiet_of_same (A3.out _)))
       go_wp2
       go_round
       case rel=>exact ⟨d+1,by omega,by go_num,by rw[HP.out,HR.out],below_drewN HB2.out _⟩
       case measure=>simp[intOf]<;>omega
     ·have h119:stands its f=119:=by rcases hrw with e|e;exact absurd e iw;exact e
      have t2:(stands its f != 114)=true:=by simp[iw]
      have t3:(stands its f != 119)=false:=by simp[h119]
      have t5:(stands its f==119)=true:=by simp[h119]
      have HR:=hide (YES.out (CW.out hdc hx hrw (Or.inr h119)))
      clear hx iw h119 hrw
      clear NO YES CX CR CW
      go_wp2_with (first|(go_at_call 81;refine W1.out.mono ?_;rintro e w1 ⟨rfl,hb1⟩;have HM1:=hide (HMr.out.below hb1))|(refine wpList_store_row rfl 108 _ _ rfl _ _ rfl rfl 108 _ (heap_alloc_last _ _) Tryz.iFrame rfl (dx _) ?_;rw[World.setRow_alloc_new])|(refine wpList_load_row rfl 108 _ rfl _ rfl 108 _ (0,0) _ (heap_alloc_last _ _) Tryz.underlying108 rfl Tryz.iFrame ?_)|(go_at_call 121;refine (mr _ N b A its n S f (HM1.out.alloc _) HO.out hf.out).mono ?_;rintro e w2 ⟨rfl,hb2⟩;have HM2:=hide ((HM1.out.alloc _).below hb2);have HF2:=hide ((Blk.eB w1 f _).below hb2)))
      obtain ⟨g2,hg2,p1,_⟩:=HM2.out.bC f.item hit
      have p0:w2.cell? ⟨b,0,none⟩=some (.slice A.ai its.length A.ci):=HM2.out.root.cell 0 (by omega)
      rw[hg2] at p0
      have p2:w2.cell? ⟨w1.heap.size,1,none⟩=some (.int .i64 (f.item:Int)):=HF2.out.cell 1 (by omega)
      have p3:w2.cell? ⟨w1.heap.size,2,none⟩=some (.int .i64 (f.pos:Int)):=HF2.out.cell 2 (by omega)
      have HB2:=hide (ak (aL (ak HB.out hb1) _) hb2)
      clear hb2 HF2 hg2
      generalize f.item=fi2 at *
      generalize f.pos=fp2 at *
      generalize Wd.mkS (ah its fi2)=sb at *
      generalize num (ah its fi2) fp2=nm at *
      go_quiet (first|(go_at_call 69;exact Calls.quiet_of_same (A3.out _)))
      go_wp2
      all_goals (go_ret;exact ⟨bW (by rw[HP.out,HR.out]),below_drewN HB2.out _⟩)
    ·have tx:(x==num (ah its f.item) f.pos)=false:=by simp[hx]
     have HR:=hide (NO.out (CX.out hx))
     by_cases iw:stands its f=114
     ·have t2:(stands its f != 114)=false:=by simp[iw]
      clear hx iw hrw
      clear NO YES CX CR CW
      go_wp2_with (first|(go_at_call 81;refine W1.out.mono ?_;rintro e w1 ⟨rfl,hb1⟩;have HM1:=hide (HMr.out.below hb1))|(refine wpList_store_row rfl 108 _ _ rfl _ _ rfl rfl 108 _ (heap_alloc_last _ _) Tryz.iFrame rfl (dx _) ?_;rw[World.setRow_alloc_new])|(refine wpList_load_row rfl 108 _ rfl _ rfl 108 _ (0,0) _ (heap_alloc_last _ _) Tryz.underlying108 rfl Tryz.iFrame ?_)|(go_at_call 121;refine (mr _ N b A its n S f (HM1.out.alloc _) HO.out hf.out).mono ?_;rintro e w2 ⟨rfl,hb2⟩;have HM2:=hide ((HM1.out.alloc _).below hb2);have HF2:=hide ((Blk.eB w1 f _).below hb2)))
      obtain ⟨g2,hg2,p1,_⟩:=HM2.out.bC f.item hit
      have p0:w2.cell? ⟨b,0,none⟩=some (.slice A.ai its.length A.ci):=HM2.out.root.cell 0 (by omega)
      rw[hg2] at p0
      have p2:w2.cell? ⟨w1.heap.size,1,none⟩=some (.int .i64 (f.item:Int)):=HF2.out.cell 1 (by omega)
      have p3:w2.cell? ⟨w1.heap.size,2,none⟩=some (.int .i64 (f.pos:Int)):=HF2.out.cell 2 (by omega)
      have HB2:=hide (ak (aL (ak HB.out hb1) _) hb2)
      clear hb2 HF2 hg2
      generalize f.item=fi2 at *
      generalize f.pos=fp2 at *
      generalize Wd.mkS (ah its fi2)=sb at *
      generalize num (ah its fi2) fp2=nm at *
      go_quiet (first|(go_at_call 69;exact Calls.quiet_of_same (A3.out _)))
      go_wp2
      go_round
      case rel=>exact ⟨d+1,by omega,by go_num,by rw[HP.out,HR.out],below_drewN HB2.out _⟩
      case measure=>simp[intOf]<;>omega
     ·have h119:stands its f=119:=by rcases hrw with e|e;exact absurd e iw;exact e
      have t2:(stands its f != 114)=true:=by simp[iw]
      have t3:(stands its f != 119)=false:=by simp[h119]
      clear hx iw h119 hrw
      clear NO YES CX CR CW
      go_wp2_with (first|(go_at_call 81;refine W1.out.mono ?_;rintro e w1 ⟨rfl,hb1⟩;have HM1:=hide (HMr.out.below hb1))|(refine wpList_store_row rfl 108 _ _ rfl _ _ rfl rfl 108 _ (heap_alloc_last _ _) Tryz.iFrame rfl (dx _) ?_;rw[World.setRow_alloc_new])|(refine wpList_load_row rfl 108 _ rfl _ rfl 108 _ (0,0) _ (heap_alloc_last _ _) Tryz.underlying108 rfl Tryz.iFrame ?_)|(go_at_call 121;refine (mr _ N b A its n S f (HM1.out.alloc _) HO.out hf.out).mono ?_;rintro e w2 ⟨rfl,hb2⟩;have HM2:=hide ((HM1.out.alloc _).below hb2);have HF2:=hide ((Blk.eB w1 f _).below hb2)))
      obtain ⟨g2,hg2,p1,_⟩:=HM2.out.bC f.item hit
      have p0:w2.cell? ⟨b,0,none⟩=some (.slice A.ai its.length A.ci):=HM2.out.root.cell 0 (by omega)
      rw[hg2] at p0
      have p2:w2.cell? ⟨w1.heap.size,1,none⟩=some (.int .i64 (f.item:Int)):=HF2.out.cell 1 (by omega)
      have p3:w2.cell? ⟨w1.heap.size,2,none⟩=some (.int .i64 (f.pos:Int)):=HF2.out.cell 2 (by omega)
      have HB2:=hide (ak (aL (ak HB.out hb1) _) hb2)
      clear hb2 HF2 hg2
      generalize f.item=fi2 at *
      generalize f.pos=fp2 at *
      generalize Wd.mkS (ah its fi2)=sb at *
      generalize num (ah its fi2) fp2=nm at *
      go_quiet (first|(go_at_call 69;exact Calls.quiet_of_same (A3.out _)))
      go_wp2
      go_round
      case rel=>exact ⟨d+1,by omega,by go_num,by rw[HP.out,HR.out],below_drewN HB2.out _⟩
      case measure=>simp[intOf]<;>omega
   ·rw[not_or] at hrw
    have t2:(stands its f != 114)=true:=by simp[hrw.1]
    have t3:(stands its f != 119)=true:=by simp[hrw.2]
    have HR:=hide (NO.out (CO.out hrw.1 hrw.2))
    clear hrw
    go_wp2_with (first|(go_at_call 81;refine W1.out.mono ?_;rintro e w1 ⟨rfl,hb1⟩;have HM1:=hide (HMr.out.below hb1))|(refine wpList_store_row rfl 108 _ _ rfl _ _ rfl rfl 108 _ (heap_alloc_last _ _) Tryz.iFrame rfl (dx _) ?_;rw[World.setRow_alloc_new])|(refine wpList_load_row rfl 108 _ rfl _ rfl 108 _ (0,0) _ (heap_alloc_last _ _) Tryz.underlying108 rfl Tryz.iFrame ?_)|(go_at_call 121;refine (mr _ N b A its n S f (HM1.out.alloc _) HO.out hf.out).mono ?_;rintro e w2 ⟨rfl,hb2⟩;have HM2:=hide ((HM1.out.alloc _).below hb2);have HF2:=hide ((Blk.eB w1 f _).below hb2)))
    go_round
    case rel=>exact ⟨d+1,by omega,by go_num,by rw[HP.out,HR.out],ak (aL (ak HB.out hb1) _) hb2⟩
    case measure=>simp[intOf]<;>omega
  ·go_wp2
   go_ret
   exact ⟨bW (by rw[HP.out,show n-d=0 by omega];rfl),HB.out⟩
end
end Go.Proofs.YtecmfdkhcffpmaaGreat
