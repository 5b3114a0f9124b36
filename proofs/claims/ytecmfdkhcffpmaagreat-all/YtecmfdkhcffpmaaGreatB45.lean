/- StL, StM. -/
import Derived.Test.YtecmfdkhcffpmaaGreatB41
import Derived.Test.YtecmfdkhcffpmaaGreatB35
import Derived.Test.YtecmfdkhcffpmaaGreatB40
namespace Go.Proofs.YtecmfdkhcffpmaaGreat
open Go.RowKit
set_option linter.unusedVariables false
set_option linter.unusedSimpArgs false
set_option linter.unusedSectionVars false
set_option maxHeartbeats 8000000
set_option maxRecDepth 100000
section
open Mc
theorem Tryz.infoEd:(Tryz.prog.info? 51).map (fun i=>(i.zero,i.size,i.bytes))=some (some (.agg #[.int .i64 0,.int .i64 0]),2,16):=by kernel_rfl
def edV (r:Int×Int):List Value:=[.int .i64 r.1,.int .i64 r.2]
theorem wB (r:Int×Int):(edV r).length=2:=rfl
structure EdI (w W:World)(v:Value)(L:List (Int×Int)):Prop where
 own:W.ownsRow w.heap.size 51 2 v L.length (L.flatMap edV)
 b:Below w.heap.size w W
theorem EdI.new (w:World):EdI w (w.alloc (.cells #[] 51)) (.slice (some ⟨w.heap.size,0,none⟩) 0 0) []:=⟨vH w _ _ _ (Nat.le_refl _),aD _ _⟩
theorem EdI.below {w W W':World}{v:Value}{L:List (Int×Int)}(h:EdI w W v L)(hb:Below W.heap.size W W'):EdI w W' v L:=⟨fO h.own (fun j _ hl=>hb.block j hl),ak h.b hb⟩
theorem EdI.push {w W W':World}{v v':Value}{L:List (Int×Int)}{r:Int×Int}{o:Obj}(h:EdI w W v L)(ho:W'.ownsRow w.heap.size 51 2 v' (L++[r]).length ((L++[r]).flatMap edV))(hb:Below w.heap.size (W.alloc o) W'):EdI w W' v' (L++[r]):=⟨ho,(h.b.alloc h.b.size o).trans hb⟩
theorem A9 (s:ByteArray)(w:World)(x:Int×Int)(hs:s.size<=maxLen)(hread:Wd.aF s.data.toList=.error x) :
  Calls Tryz.prog 73 #[.string s] w fun e w'=>e=.returned (.tuple #[.slice none 0 0,.int .i64 x.1])/\Below w.heap.size w w':=by
 have hx:=Wd.jf hread
 have HX:=kZ s w hs
 rw[hread] at HX
 have HXX:=hide HX
 clear HX hread
 go_enter Tryz.func73,Tryz.ntmps73
 go_wp2_with (go_at_call 35;refine HXX.out.mono ?_;rintro e w1 ⟨hb1,rfl⟩;have HB1:=hide hb1;clear hb1)
 go_ret2
 exact ⟨rfl,HB1.out⟩
theorem M8 (s:ByteArray)(w:World)(x:Int×Int)(hs:s.size<=maxLen)(hread:Wd.aF s.data.toList=.error x) :
  Calls Tryz.prog 50 #[.string s] w fun e w'=>e=.returned (.tuple #[.slice none 0 0,.int .i64 x.1])/\Below w.heap.size w w':=by
 have hx:=Wd.jf hread
 have HXX:=hide (A9 s w x hs hread)
 clear hread
 go_enter Tryz.func50,Tryz.ntmps50
 go_wp2_with (go_at_call 73;refine HXX.out.mono ?_;rintro e w1 ⟨rfl,hb1⟩;have HB1:=hide hb1;clear hb1)
 go_ret2
 exact ⟨rfl,HB1.out⟩
theorem O7 (s:ByteArray)(w:World)(its:List Wd.It)(hs:s.size<=maxLen)(hread:Wd.aF s.data.toList=.ok its) :
  Calls Tryz.prog 50 #[.string s] w fun e w'=>∃ao cc,e=.returned (.tuple #[.slice ao (cO (bT its) 6).length cc,.int .i64 0])/\EdI w w' (.slice ao (cO (bT its) 6).length cc) (cO (bT its) 6):=by
 have HXX:=hide (Bo s w its hs hread)
 clear hread
 generalize hF:bT its=F
 have HF:=hide hF
 clear hF
 obtain ⟨i0,hj0,hz0,hz1,hz2⟩:=info_parts Tryz.infoEd
 go_enter Tryz.func50,Tryz.ntmps50
 go_wp2_with (first|(go_at_call 82;refine ((C8 (w0.alloc (.cells #[] 51)) kao kc K (by rw[HOF.out.len];exact HK.out.below (aD _ _))).mono ?_);rintro e w1 ⟨rfl,hb1⟩;rw[Ep (HOF.out.kof HK.out).1,HF.out];have HR1:=hide (HR0.out.below hb1);clear hb1)|(go_at_call 73;refine (HXX.out).mono ?_;rintro e w0 ⟨kao,kc,K,rfl,hK,hof,hb0⟩;have HK:=hide hK;have HOF:=hide hof;have HB0:=hide hb0;have HR0:=hide (EdI.new w0);rw[<-hof.len];clear hK hof hb0))
 clear HR0
 go_loopw [6,22] (fun a c wr=>∃l:Nat,l<=6/\c=.int .i64 l/\EdI w0 wr a (cO F l)) (fun _ c _=>6-(intOf c).toNat)
 case atStart=>exact ⟨0,by omega,rfl,HR1.out⟩
 case round =>
  clear HR1
  obtain ⟨l,hl,rfl,hr⟩:=hrel
  have HR:=hide hr
  clear hr
  obtain ⟨ao,cc,hv⟩:=bq HR.out.own
  subst hv
  by_cases hlt:l<6
  ·have hix:=hide (Gj F l hlt)
   have hl0:(0:Int)<=(l:Int):=by omega
   have Ua:=yQ F l
   have HFf:Hid (∀m,F l m=(fun m=>F l m) m):=hide (fun m=>rfl)
   generalize (fun m=>F l m)=f at *
   go_wp2_with (first|(refine wpList_load_row rfl 70 _ rfl _ rfl 70 (bsA 6 f) (0,0) _ ?_ Tryz.underlying70 rfl (Tryz.iSix _) ?_;(exact HT1.out.raw))|(refine wpList_store_row rfl 70 _ _ rfl wr.heap.size (bsA 6 f) rfl rfl 70 #[.bool false,.bool false,.bool false,.bool false,.bool false,.bool false] ?_ (Tryz.iSix _) rfl (iI _ _) ?_;(exact (Row.new wr #[.bool false,.bool false,.bool false,.bool false,.bool false,.bool false] 70).raw);rw[World.setRow_alloc_new];have HR1:=hide (HR.out.below (aD wr (.cells (bsA 6 f) 70)));have HT1:=hide (Row.new wr (bsA 6 f) 70);generalize wr.alloc (.cells (bsA 6 f) 70)=w1 at *)|(refine iT rfl _ _ _ rfl _ (hix.out _) ?_))
   go_loopw [6,27] (fun a c wr=>∃(m:Nat) (X:List (Int×Int)),m<=6/\c=.int .i64 m/\X=cO F l++jF F l m/\EdI w0 wr a X) (fun _ c _=>6-(intOf c).toNat)
   case atStart=>exact ⟨0,_,by omega,rfl,rfl,by rw[Cc,List.append_nil];exact HR1.out⟩
   case round =>
    clear HR1 HT1 HR hix
    obtain ⟨m,X,hm,rfl,hX,hr⟩:=hrel
    have HR:=hide hr
    have HX:=hide hX
    clear hr hX
    obtain ⟨ao,cc,hv⟩:=bq HR.out.own
    subst hv
    have hsz:=HR.out.b.size
    by_cases hmt:m<6
    ·have hix:=hide (UG f m hmt)
     have hm0:(0:Int)<=(m:Int):=by omega
     have hlen:=xK F l m
     have hlen1:X.length<=50:=by rw[HX.out,List.length_append];omega
     have dH:=hide (CQ F l m)
     have hno:=hide (Dy F l m)
     rw[HFf.out m] at dH hno
     generalize f m=o at *
     cases o
     ·go_wp2_with (refine iT rfl _ _ _ rfl _ (hix.out _) ?_)
      go_round
      case measure=>simp[intOf];omega
      case rel=>exact ⟨m+1,X,by omega,by go_num,by rw[hno.out rfl];exact HX.out,HR.out⟩
     ·go_wp2_with (first|(at_builtin;refine gP (f:=edV) wB rfl _ _ 46 rfl (w0.heap.size) 51 i0 _ 16 Tryz.underlying46 hj0 hz0 hz1 hz2 rfl (by decide) _ X (((l:Nat):Int),((m:Nat):Int)) rfl ⟨_,0,none⟩ rfl ?_ ?_ ?_ ?_ ?_ ?_ ?_;(exact HR.out.own.alloc _);(exact eZ _ _ _);(intro x hx;simp[edV] at hx;rcases hx with rfl|rfl<;>rfl);(unfold maxLen;omega);(omega);(exact (by simp;omega));intro ao' cc' w2 hown' aT bn hat';have kU:=hide hown';have jX:=hide aT;clear hown' aT bn hat')|(refine iT rfl _ _ _ rfl _ (hix.out _) ?_))
      go_round
      case measure=>simp[intOf];omega
      case rel=>exact ⟨m+1,_,by omega,by go_num,by rw[dH.out rfl,<-List.append_assoc,<-HX.out],HR.out.push kU.out jX.out⟩
    ·have e:m=6:=by omega
     subst e
     go_wp2
     go_round
     case measure=>simp[intOf];omega
     case rel=>exact ⟨l+1,by omega,by go_num,by rw[yt,<-HX.out];exact HR.out⟩
  ·have e:l=6:=by omega
   subst e
   go_wp2
   go_ret2
   exact ⟨ao,cc,rfl,iH HR.out.own HB0.out.size,ak HB0.out HR.out.b⟩
def EPost (w:World)(r:Except (Int×Int) (List Wd.It))(e:Ending)(w':World):Prop :=
 Below w.heap.size w w'/\(match r with
  | .ok its=>∃ao cc,e=.returned (.tuple #[.slice ao (cO (bT its) 6).length cc,.int .i64 0])/\w'.ownsRow w.heap.size 51 2 (.slice ao (cO (bT its) 6).length cc) (cO (bT its) 6).length ((cO (bT its) 6).flatMap edV)
  | .error x=>e=.returned (.tuple #[.slice none 0 0,.int .i64 x.1]))
theorem M9 (s:ByteArray)(w:World)(hs:s.size<=maxLen):Calls Tryz.prog 50 #[.string s] w (EPost w (Wd.aF s.data.toList)):=by
 cases hr:Wd.aF s.data.toList with
 | ok its =>
  refine (O7 s w its hs hr).mono ?_
  rintro e w' ⟨ao,cc,rfl,h⟩
  exact ⟨h.b,ao,cc,rfl,h.own⟩
 | error x =>
  refine (M8 s w x hs hr).mono ?_
  rintro e w' ⟨rfl,hb⟩
  exact ⟨hb,rfl⟩
end
section
open Mc
theorem O8 {b:List UInt8}{c:Nat}{z:Vi}{r:Rc}(h:¬((atB b r.p=114\/atB b r.p=119)/\aW b r.p=(c:Int))):mJ b c z r=z:=by unfold mJ;rw[if_neg h]
theorem Na {b:List UInt8}{c:Nat}{z:Vi}{r:Rc}(h:(atB b r.p=114\/atB b r.p=119)/\aW b r.p=(c:Int)):mJ b c z r=⟨fun x=>if x=hn r.h then (z.wr (hn r.h)||decide (atB b r.p=119)) else z.wr x,fun x=>if x=hn r.h then true else z.ei x⟩:=by
 unfold mJ
 rw[if_pos h]
 congr 1
 funext x
 by_cases e:x=hn r.h
 ·rw[e]
 ·rw[if_neg e,if_neg e]
theorem Er {b:List UInt8}{c j:Nat}{L:List Rc}{r:Rc}(h:L[j]?=some r):cZ b c (L.take (j+1))=mJ b c (cZ b c (L.take j)) r:=uU _ _ L h
structure VsI (w W:World)(k:Kn)(kao:Option Addr)(kc:Nat)(z:Vi):Prop where
 k:Row W w.heap.size #[.bool k.hd,.bool k.hd,.string k.s,.slice (some ⟨k.lg,0,none⟩) k.s.size k.s.size,.slice kao k.L.length kc] 127
 res:Row W (w.heap.size+1) (viA cu) 187
 fd:Row W (w.heap.size+2) (viA z) 187
 b:Below w.heap.size w W
theorem VsI.below {w W W':World}{k:Kn}{kao:Option Addr}{kc:Nat}{z:Vi}(h:VsI w W k kao kc z)(hb:Below W.heap.size W W'):VsI w W' k kao kc z:=⟨h.k.below hb,h.res.below hb,h.fd.below hb,ak h.b hb⟩
theorem VsI.set {w W:World}{k:Kn}{kao:Option Addr}{kc:Nat}{z:Vi}(h:VsI w W k kao kc z)(x:Nat)(hx:x<64)(o:Bool):VsI w ((W.setCell ⟨w.heap.size+2,64+x,none⟩ (.bool true)).setCell ⟨w.heap.size+2,x,none⟩ (.bool o)) k kao kc ⟨fun y=>if y=x then o else z.wr y,fun y=>if y=x then true else z.ei y⟩:=by
 refine ⟨(h.k.aA (by omega) _ _).aA (by omega) _ _,(h.res.aA (by omega) _ _).aA (by omega) _ _,?_,(h.b.setCell (show w.heap.size<=w.heap.size+2 by omega) _).setCell (show w.heap.size<=w.heap.size+2 by omega) _⟩
 have h1:=h.fd.set (64+x) (.bool true)
 rw[QK z x hx true] at h1
 have h2:=h1.set x (.bool o)
 rw[QL _ x hx o] at h2
 exact h2
theorem JG (w:World)(k:Kn)(kao:Option Addr)(kc:Nat)(c:Nat)(hc:c<4)(hkv:k.v=.slice kao k.L.length kc)(hin:kS w k) :
  Calls Tryz.prog 125 #[.agg #[.bool k.hd,.bool k.hd,.string k.s,.slice (some ⟨k.lg,0,none⟩) k.s.size k.s.size,.slice kao k.L.length kc],.int .i64 c] w fun e w'=>e=.returned (.agg (viA (cZ k.s.data.toList c k.L)))/\Below w.heap.size w w':=by
 have HIN:=hide hin
 have HKV:=hide hkv
 have hLl:k.L.length<=100000:=by have h1:=hin.fin.len hin.gb;have h2:=hin.gb.short;have h3:=Nat.mul_le_mul_right 128 (show k.s.data.toList.length+1<=301 by omega);omega
 have hok:=hide hin.gb.pair
 have hks:k.s.size<=300:=hin.short
 clear hin hkv
 have HV0:Hid (VsI w (((w.alloc (.cells #[.bool k.hd,.bool k.hd,.string k.s,.slice (some ⟨k.lg,0,none⟩) k.s.size k.s.size,.slice kao k.L.length kc] 127)).alloc (.cells (viA cu) 187)).alloc (.cells (viA cu) 187)) k kao kc cu):=by
  obtain ⟨a,b,d⟩:=Row.three w #[.bool k.hd,.bool k.hd,.string k.s,.slice (some ⟨k.lg,0,none⟩) k.s.size k.s.size,.slice kao k.L.length kc] (viA cu) (viA cu) 127 187 187
  exact hide ⟨a,b,d,iR w _ _ _⟩
 have y4:(((w.alloc (.cells #[.bool k.hd,.bool k.hd,.string k.s,.slice (some ⟨k.lg,0,none⟩) k.s.size k.s.size,.slice kao k.L.length kc] 127)).alloc (.cells (viA cu) 187)).alloc (.cells (viA cu) 187)).cell? ⟨w.heap.size,4,none⟩=some (.slice kao k.L.length kc):=HV0.out.k.cell 4 rfl
 go_enter Tryz.func125,Tryz.ntmps125
 go_wp2_with (first|(refine wpList_store_row rfl 187 _ _ rfl _ (viA cu) rfl rfl 187 (viA cu) ?_ (Tryz.iVi _) rfl (lQ _) ?_;(exact heap_alloc_last _ _);rw[World.setRow_alloc_new])|(refine mY rfl rfl ?_)|(refine I8 rfl rfl ?_))
 generalize ((w.alloc (.cells #[.bool k.hd,.bool k.hd,.string k.s,.slice (some ⟨k.lg,0,none⟩) k.s.size k.s.size,.slice kao k.L.length kc] 127)).alloc (.cells (viA cu) 187)).alloc (.cells (viA cu) 187)=W at *
 clear y4
 go_loopw [15] (fun a wr=>∃j:Nat,j<=k.L.length/\a=.int .i64 j/\VsI w wr k kao kc (cZ k.s.data.toList c (k.L.take j))) (fun a _=>k.L.length-(intOf a).toNat)
 case atStart=>exact ⟨0,by omega,rfl,HV0.out⟩
 case round =>
  clear HV0
  obtain ⟨j,hj,rfl,hv⟩:=hrel
  have HV:=hide hv
  clear hv
  by_cases hjt:j<k.L.length
  ·obtain ⟨r,hr⟩:∃r,k.L[j]?=some r:=⟨k.L[j],List.getElem?_eq_getElem hjt⟩
   have hmem:=List.mem_of_getElem? hr
   have hso:=HIN.out.fin.ok HIN.out.gb hmem
   have hrp:r.p<=20000:=by have h1:=hso.2.le;have h2:=HIN.out.gb.short;have h3:r.st.1=r.p:=rfl;omega
   have hrh:r.h<64:=hso.1
   obtain ⟨g1,eH,hv1,_,hg1,_,_,hr1⟩:=sj (HKV.out ▸ (je HIN.out.own HV.out.b)) hr
   cases hv1
   have HR1:Hid (wr.rangeAt g1 (j*10) (rcV r)):=hide hr1
   have hj0:(0:Int)<=(j:Int):=by omega
   obtain ⟨z,hz⟩:∃z,cZ k.s.data.toList c (k.L.take j)=z:=⟨_,rfl⟩
   rw[hz] at HV
   have HNO:=hide (fun h=>(Er (b:=k.s.data.toList) (c:=c) hr).trans (O8 (z:=cZ k.s.data.toList c (k.L.take j)) h))
   have Au:=hide (fun h=>(Er (b:=k.s.data.toList) (c:=c) hr).trans (Na (z:=cZ k.s.data.toList c (k.L.take j)) h))
   rw[hz] at HNO Au
   have AA:=hide (fun W=>iF k.hd k.s (some ⟨k.lg,0,none⟩) k.s.size k.s.size r.p W (by omega) hrp)
   have AN:=hide (fun W=>pO k.hd k.s (some ⟨k.lg,0,none⟩) k.s.size k.s.size r.p W (by omega) hrp hok.out)
   have AH:Hid (∀W,Calls Tryz.prog 143 #[.agg (bsA 6 (hb r.h))] W fun e w'=>e=.returned (.int .i64 ((hn r.h:Nat):Int))/\Below W.heap.size W w'):=hide (fun W=>Ir r.h W)
   have hnb:=vR hok.out r.p
   have hhn:=nJ r.h hrh
   clear hr hr1 hso hz hmem
   generalize atB k.s.data.toList r.p=a at *
   generalize aW k.s.data.toList r.p=n at *
   have HX:Hid (∀W,VsI w W k (some ⟨g1,0,none⟩) kc z->W.cell? ⟨w.heap.size+2,64+hn r.h,none⟩=some (.bool (z.ei (hn r.h)))/\W.cell? ⟨w.heap.size+2,hn r.h,none⟩=some (.bool (z.wr (hn r.h)))):=hide (fun W h=>⟨h.fd.cell _ (FY z _ hhn),h.fd.cell _ (zL z _ hhn)⟩)
   generalize z.wr (hn r.h)=o at *
   generalize z.ei (hn r.h)=o' at *
   have Hl:Hid (∀W,VsI w W k (some ⟨g1,0,none⟩) kc z->∀o,VsI w ((W.setCell ⟨w.heap.size+2,64+hn r.h,none⟩ (.bool true)).setCell ⟨w.heap.size+2,hn r.h,none⟩ (.bool o)) k (some ⟨g1,0,none⟩) kc ⟨fun y=>if y=hn r.h then o else z.wr y,fun y=>if y=hn r.h then true else z.ei y⟩):=hide (fun W h o=>h.set _ hhn o)
   generalize hn r.h=x at *
   have hxI:(x:Int)<64:=by omega
   have hx0:(0:Int)<=(x:Int):=by omega
   by_cases ha:a=114\/a=119
   ·by_cases hn:n=(c:Int)
    ·subst hn
     rcases ha with rfl|rfl
     ·cases o<;>(
       go_wp2_with (first|(go_at_call 143;refine (AH.out _).mono ?_;rintro e w4 ⟨rfl,hb4⟩;have HV4:=hide (HV3.out.below hb4);obtain ⟨q1,q2⟩:=HX.out _ HV4.out;have f1:=HV4.out.fd.frozen (64+x);have f2:=HV4.out.fd.frozen x;clear hb4)|(refine lm rfl 89 _ rfl _ _ rfl 6 (hb r.h) _ ?_ Tryz.uHeld rfl Tryz.iHeld ?_;(exact dW.out.nL))|(go_at_call 129;refine (AN.out _).mono ?_;rintro e w3 ⟨rfl,hb3⟩;have HV3:=hide (HV2.out.below hb3);have dW:=hide (bL.out.below hb3);clear hb3)|(refine wpList_load_mid rfl 88 _ rfl _ _ rfl [.bool k.hd,.string k.s,.slice (some ⟨k.lg,0,none⟩) k.s.size k.s.size] _ ?_ Tryz.underlying88 rfl Tryz.iCode ?_;(exact HV2.out.k.gM))|(go_at_call 105;refine (AA.out _).mono ?_;rintro e w2 ⟨rfl,hb2⟩;have HV2:=hide (HV1.out.below hb2);have bL:=hide (aV.out.below hb2);have p2:w2.cell? ⟨wr.heap.size,0,none⟩=some (.int .i64 (r.p:Int)):=bL.out.cell 0 (fq r);clear hb2)|(refine wpList_load_mid rfl 88 _ rfl _ _ rfl [.bool k.hd,.string k.s,.slice (some ⟨k.lg,0,none⟩) k.s.size k.s.size] _ ?_ Tryz.underlying88 rfl Tryz.iCode ?_;(exact HV1.out.k.gM))|(refine wpList_store_row rfl 130 _ _ rfl wr.heap.size (rcA r) rfl rfl 130 #[.int .i64 0,.bool false,.bool false,.bool false,.bool false,.bool false,.bool false,.bool false,.int .i64 0,.bool false] ?_ (Tryz.iRc _) rfl (gW _) ?_;(exact (Row.new wr #[.int .i64 0,.bool false,.bool false,.bool false,.bool false,.bool false,.bool false,.bool false,.int .i64 0,.bool false] 130).raw);rw[World.setRow_alloc_new];have HV1:=hide (HV.out.below (aD wr (.cells (rcA r) 130)));have aV:=hide (Row.new wr (rcA r) 130);generalize wr.alloc (.cells (rcA r) 130)=w1 at *;have p1:w1.cell? ⟨wr.heap.size,0,none⟩=some (.int .i64 (r.p:Int)):=aV.out.cell 0 (fq r))|(refine wpList_load_mid rfl 130 _ rfl _ _ rfl (rcV r) _ ?_ Tryz.underlying130 rfl Tryz.iReached ?_;(exact HR1.out)))
       go_round
       case measure=>simp[intOf];omega
       case rel=>exact ⟨j+1,by omega,by go_num,by rw[Au.out (by simp)];exact Hl.out _ HV4.out _⟩)
     ·cases o<;>(
       go_wp2_with (first|(go_at_call 143;refine (AH.out _).mono ?_;rintro e w4 ⟨rfl,hb4⟩;have HV4:=hide (HV3.out.below hb4);obtain ⟨q1,q2⟩:=HX.out _ HV4.out;have f1:=HV4.out.fd.frozen (64+x);have f2:=HV4.out.fd.frozen x;clear hb4)|(refine lm rfl 89 _ rfl _ _ rfl 6 (hb r.h) _ ?_ Tryz.uHeld rfl Tryz.iHeld ?_;(exact dW.out.nL))|(go_at_call 129;refine (AN.out _).mono ?_;rintro e w3 ⟨rfl,hb3⟩;have HV3:=hide (HV2.out.below hb3);have dW:=hide (bL.out.below hb3);clear hb3)|(refine wpList_load_mid rfl 88 _ rfl _ _ rfl [.bool k.hd,.string k.s,.slice (some ⟨k.lg,0,none⟩) k.s.size k.s.size] _ ?_ Tryz.underlying88 rfl Tryz.iCode ?_;(exact HV2.out.k.gM))|(go_at_call 105;refine (AA.out _).mono ?_;rintro e w2 ⟨rfl,hb2⟩;have HV2:=hide (HV1.out.below hb2);have bL:=hide (aV.out.below hb2);have p2:w2.cell? ⟨wr.heap.size,0,none⟩=some (.int .i64 (r.p:Int)):=bL.out.cell 0 (fq r);clear hb2)|(refine wpList_load_mid rfl 88 _ rfl _ _ rfl [.bool k.hd,.string k.s,.slice (some ⟨k.lg,0,none⟩) k.s.size k.s.size] _ ?_ Tryz.underlying88 rfl Tryz.iCode ?_;(exact HV1.out.k.gM))|(refine wpList_store_row rfl 130 _ _ rfl wr.heap.size (rcA r) rfl rfl 130 #[.int .i64 0,.bool false,.bool false,.bool false,.bool false,.bool false,.bool false,.bool false,.int .i64 0,.bool false] ?_ (Tryz.iRc _) rfl (gW _) ?_;(exact (Row.new wr #[.int .i64 0,.bool false,.bool false,.bool false,.bool false,.bool false,.bool false,.bool false,.int .i64 0,.bool false] 130).raw);rw[World.setRow_alloc_new];have HV1:=hide (HV.out.below (aD wr (.cells (rcA r) 130)));have aV:=hide (Row.new wr (rcA r) 130);generalize wr.alloc (.cells (rcA r) 130)=w1 at *;have p1:w1.cell? ⟨wr.heap.size,0,none⟩=some (.int .i64 (r.p:Int)):=aV.out.cell 0 (fq r))|(refine wpList_load_mid rfl 130 _ rfl _ _ rfl (rcV r) _ ?_ Tryz.underlying130 rfl Tryz.iReached ?_;(exact HR1.out)))
       go_round
       case measure=>simp[intOf];omega
       case rel=>exact ⟨j+1,by omega,by go_num,by rw[Au.out (by simp)];exact Hl.out _ HV4.out _⟩)
    ·have HN:=hide hn
     have hn':(n==(c:Int))=false:=by simpa using hn
     rcases ha with rfl|rfl
     ·go_wp2_with (first|(go_at_call 143;refine (AH.out _).mono ?_;rintro e w4 ⟨rfl,hb4⟩;have HV4:=hide (HV3.out.below hb4);obtain ⟨q1,q2⟩:=HX.out _ HV4.out;have f1:=HV4.out.fd.frozen (64+x);have f2:=HV4.out.fd.frozen x;clear hb4)|(refine lm rfl 89 _ rfl _ _ rfl 6 (hb r.h) _ ?_ Tryz.uHeld rfl Tryz.iHeld ?_;(exact dW.out.nL))|(go_at_call 129;refine (AN.out _).mono ?_;rintro e w3 ⟨rfl,hb3⟩;have HV3:=hide (HV2.out.below hb3);have dW:=hide (bL.out.below hb3);clear hb3)|(refine wpList_load_mid rfl 88 _ rfl _ _ rfl [.bool k.hd,.string k.s,.slice (some ⟨k.lg,0,none⟩) k.s.size k.s.size] _ ?_ Tryz.underlying88 rfl Tryz.iCode ?_;(exact HV2.out.k.gM))|(go_at_call 105;refine (AA.out _).mono ?_;rintro e w2 ⟨rfl,hb2⟩;have HV2:=hide (HV1.out.below hb2);have bL:=hide (aV.out.below hb2);have p2:w2.cell? ⟨wr.heap.size,0,none⟩=some (.int .i64 (r.p:Int)):=bL.out.cell 0 (fq r);clear hb2)|(refine wpList_load_mid rfl 88 _ rfl _ _ rfl [.bool k.hd,.string k.s,.slice (some ⟨k.lg,0,none⟩) k.s.size k.s.size] _ ?_ Tryz.underlying88 rfl Tryz.iCode ?_;(exact HV1.out.k.gM))|(refine wpList_store_row rfl 130 _ _ rfl wr.heap.size (rcA r) rfl rfl 130 #[.int .i64 0,.bool false,.bool false,.bool false,.bool false,.bool false,.bool false,.bool false,.int .i64 0,.bool false] ?_ (Tryz.iRc _) rfl (gW _) ?_;(exact (Row.new wr #[.int .i64 0,.bool false,.bool false,.bool false,.bool false,.bool false,.bool false,.bool false,.int .i64 0,.bool false] 130).raw);rw[World.setRow_alloc_new];have HV1:=hide (HV.out.below (aD wr (.cells (rcA r) 130)));have aV:=hide (Row.new wr (rcA r) 130);generalize wr.alloc (.cells (rcA r) 130)=w1 at *;have p1:w1.cell? ⟨wr.heap.size,0,none⟩=some (.int .i64 (r.p:Int)):=aV.out.cell 0 (fq r))|(refine wpList_load_mid rfl 130 _ rfl _ _ rfl (rcV r) _ ?_ Tryz.underlying130 rfl Tryz.iReached ?_;(exact HR1.out)))
      go_round
      case measure=>simp[intOf];omega
      case rel=>exact ⟨j+1,by omega,by go_num,by rw[HNO.out (fun h=>HN.out h.2)];exact HV4.out⟩
     ·go_wp2_with (first|(go_at_call 143;refine (AH.out _).mono ?_;rintro e w4 ⟨rfl,hb4⟩;have HV4:=hide (HV3.out.below hb4);obtain ⟨q1,q2⟩:=HX.out _ HV4.out;have f1:=HV4.out.fd.frozen (64+x);have f2:=HV4.out.fd.frozen x;clear hb4)|(refine lm rfl 89 _ rfl _ _ rfl 6 (hb r.h) _ ?_ Tryz.uHeld rfl Tryz.iHeld ?_;(exact dW.out.nL))|(go_at_call 129;refine (AN.out _).mono ?_;rintro e w3 ⟨rfl,hb3⟩;have HV3:=hide (HV2.out.below hb3);have dW:=hide (bL.out.below hb3);clear hb3)|(refine wpList_load_mid rfl 88 _ rfl _ _ rfl [.bool k.hd,.string k.s,.slice (some ⟨k.lg,0,none⟩) k.s.size k.s.size] _ ?_ Tryz.underlying88 rfl Tryz.iCode ?_;(exact HV2.out.k.gM))|(go_at_call 105;refine (AA.out _).mono ?_;rintro e w2 ⟨rfl,hb2⟩;have HV2:=hide (HV1.out.below hb2);have bL:=hide (aV.out.below hb2);have p2:w2.cell? ⟨wr.heap.size,0,none⟩=some (.int .i64 (r.p:Int)):=bL.out.cell 0 (fq r);clear hb2)|(refine wpList_load_mid rfl 88 _ rfl _ _ rfl [.bool k.hd,.string k.s,.slice (some ⟨k.lg,0,none⟩) k.s.size k.s.size] _ ?_ Tryz.underlying88 rfl Tryz.iCode ?_;(exact HV1.out.k.gM))|(refine wpList_store_row rfl 130 _ _ rfl wr.heap.size (rcA r) rfl rfl 130 #[.int .i64 0,.bool false,.bool false,.bool false,.bool false,.bool false,.bool false,.bool false,.int .i64 0,.bool false] ?_ (Tryz.iRc _) rfl (gW _) ?_;(exact (Row.new wr #[.int .i64 0,.bool false,.bool false,.bool false,.bool false,.bool false,.bool false,.bool false,.int .i64 0,.bool false] 130).raw);rw[World.setRow_alloc_new];have HV1:=hide (HV.out.below (aD wr (.cells (rcA r) 130)));have aV:=hide (Row.new wr (rcA r) 130);generalize wr.alloc (.cells (rcA r) 130)=w1 at *;have p1:w1.cell? ⟨wr.heap.size,0,none⟩=some (.int .i64 (r.p:Int)):=aV.out.cell 0 (fq r))|(refine wpList_load_mid rfl 130 _ rfl _ _ rfl (rcV r) _ ?_ Tryz.underlying130 rfl Tryz.iReached ?_;(exact HR1.out)))
      go_round
      case measure=>simp[intOf];omega
      case rel=>exact ⟨j+1,by omega,by go_num,by rw[HNO.out (fun h=>HN.out h.2)];exact HV4.out⟩
   ·have HA:=hide ha
    have ha1:¬a=114:=fun e=>ha (Or.inl e)
    have ha2:¬a=119:=fun e=>ha (Or.inr e)
    clear ha
    go_wp2_with (first|(go_at_call 143;refine (AH.out _).mono ?_;rintro e w4 ⟨rfl,hb4⟩;have HV4:=hide (HV3.out.below hb4);obtain ⟨q1,q2⟩:=HX.out _ HV4.out;have f1:=HV4.out.fd.frozen (64+x);have f2:=HV4.out.fd.frozen x;clear hb4)|(refine lm rfl 89 _ rfl _ _ rfl 6 (hb r.h) _ ?_ Tryz.uHeld rfl Tryz.iHeld ?_;(exact dW.out.nL))|(go_at_call 129;refine (AN.out _).mono ?_;rintro e w3 ⟨rfl,hb3⟩;have HV3:=hide (HV2.out.below hb3);have dW:=hide (bL.out.below hb3);clear hb3)|(refine wpList_load_mid rfl 88 _ rfl _ _ rfl [.bool k.hd,.string k.s,.slice (some ⟨k.lg,0,none⟩) k.s.size k.s.size] _ ?_ Tryz.underlying88 rfl Tryz.iCode ?_;(exact HV2.out.k.gM))|(go_at_call 105;refine (AA.out _).mono ?_;rintro e w2 ⟨rfl,hb2⟩;have HV2:=hide (HV1.out.below hb2);have bL:=hide (aV.out.below hb2);have p2:w2.cell? ⟨wr.heap.size,0,none⟩=some (.int .i64 (r.p:Int)):=bL.out.cell 0 (fq r);clear hb2)|(refine wpList_load_mid rfl 88 _ rfl _ _ rfl [.bool k.hd,.string k.s,.slice (some ⟨k.lg,0,none⟩) k.s.size k.s.size] _ ?_ Tryz.underlying88 rfl Tryz.iCode ?_;(exact HV1.out.k.gM))|(refine wpList_store_row rfl 130 _ _ rfl wr.heap.size (rcA r) rfl rfl 130 #[.int .i64 0,.bool false,.bool false,.bool false,.bool false,.bool false,.bool false,.bool false,.int .i64 0,.bool false] ?_ (Tryz.iRc _) rfl (gW _) ?_;(exact (Row.new wr #[.int .i64 0,.bool false,.bool false,.bool false,.bool false,.bool false,.bool false,.bool false,.int .i64 0,.bool false] 130).raw);rw[World.setRow_alloc_new];have HV1:=hide (HV.out.below (aD wr (.cells (rcA r) 130)));have aV:=hide (Row.new wr (rcA r) 130);generalize wr.alloc (.cells (rcA r) 130)=w1 at *;have p1:w1.cell? ⟨wr.heap.size,0,none⟩=some (.int .i64 (r.p:Int)):=aV.out.cell 0 (fq r))|(refine wpList_load_mid rfl 130 _ rfl _ _ rfl (rcV r) _ ?_ Tryz.underlying130 rfl Tryz.iReached ?_;(exact HR1.out)))
    go_round
    case measure=>simp[intOf];omega
    case rel=>exact ⟨j+1,by omega,by go_num,by rw[HNO.out (fun h=>HA.out h.1)];exact HV4.out⟩
  ·have e:j=k.L.length:=by omega
   subst e
   rw[List.take_length] at HV
   obtain ⟨z,hz⟩:∃z,cZ k.s.data.toList c k.L=z:=⟨_,rfl⟩
   have HZE:=hide hz
   rw[hz] at HV
   clear hz
   go_wp2_with (first|(refine wpList_load_row rfl 187 _ rfl _ rfl 187 (viA z) (0,0) _ ?_ Tryz.underlying187 rfl (Tryz.iVi _) ?_;(exact HV.out.fd.raw))|(refine wpList_store_row rfl 187 _ _ rfl (w.heap.size+1) (viA z) rfl rfl 187 (viA cu) ?_ (Tryz.iVi _) (by rw[gq,gq]) (lQ _) ?_;(exact HV.out.res.raw)))
   exact bodyPost_ret (v:=.agg (viA z)) (results_cell_row Tryz.results125 _ _ (w.heap.size+1) 187 _ (0,0) _ rfl (HV.out.res.setRow _).raw Tryz.underlying187 rfl (Tryz.iVi _)) rfl ⟨by rw[HZE.out],below_setRow HV.out.b (by omega) _⟩
end
end Go.Proofs.YtecmfdkhcffpmaaGreat
