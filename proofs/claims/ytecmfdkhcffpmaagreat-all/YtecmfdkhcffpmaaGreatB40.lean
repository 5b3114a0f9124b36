/- StJ. -/
import Derived.Test.YtecmfdkhcffpmaaGreatB38
import Derived.Test.YtecmfdkhcffpmaaGreatB39
namespace Go.Proofs.YtecmfdkhcffpmaaGreat
open Go.RowKit
set_option linter.unusedVariables false
set_option linter.unusedSimpArgs false
set_option linter.unusedSectionVars false
set_option maxHeartbeats 8000000
set_option maxRecDepth 100000
section
open Mc
def hb (h:Nat):Nat->Bool:=fun i=>h.testBit i
theorem Row.nL {w:World}{g:Nat}{r:Rc}(h:Row w g (rcA r) 130):∀i,i<6->w.cell? ⟨g,1+i,none⟩=some (.bool (hb r.h i)):=h.gL
structure EfI (w W:World)(z:Ef):Prop where
 res:Row W w.heap.size (tbA (fun _ _=>false)) 135
 fd:Row W (w.heap.size+1) (tbA z.T) 135
 op:Row W (w.heap.size+2) (bsA 6 (hb z.op)) 89
 tk:Row W (w.heap.size+3) (bsA 6 (hb z.tk)) 89
 b:Below w.heap.size w W
theorem EfI.below {w W W':World}{z:Ef}(h:EfI w W z)(hb:Below W.heap.size W W'):EfI w W' z:=⟨h.res.below hb,h.fd.below hb,h.op.below hb,h.tk.below hb,ak h.b hb⟩
theorem EfI.fK {w W:World}{z:Ef}(h:EfI w W z)(T:Tb):EfI w (W.setRow (w.heap.size+1) (tbA T)) ⟨T,z.op,z.tk⟩:=⟨h.res.same (setRow_other _ _ _ _ (by omega)),h.fd.setRow _,h.op.same (setRow_other _ _ _ _ (by omega)),h.tk.same (setRow_other _ _ _ _ (by omega)),below_setRow h.b (by omega) _⟩
theorem EfI.aA {w W:World}{z:Ef}(h:EfI w W z)(x:Nat):EfI w (W.setRow (w.heap.size+2) (bsA 6 (hb x))) ⟨z.T,x,z.tk⟩:=⟨h.res.same (setRow_other _ _ _ _ (by omega)),h.fd.same (setRow_other _ _ _ _ (by omega)),h.op.setRow _,h.tk.same (setRow_other _ _ _ _ (by omega)),below_setRow h.b (by omega) _⟩
theorem EfI.wV {w W:World}{z:Ef}(h:EfI w W z)(x:Nat):EfI w (W.setRow (w.heap.size+3) (bsA 6 (hb x))) ⟨z.T,z.op,x⟩:=⟨h.res.same (setRow_other _ _ _ _ (by omega)),h.fd.same (setRow_other _ _ _ _ (by omega)),h.op.same (setRow_other _ _ _ _ (by omega)),h.tk.setRow _,below_setRow h.b (by omega) _⟩
theorem EfI.lt {w W:World}{z:Ef}(h:EfI w W z):w.heap.size+3<W.heap.size:=h.tk.lt
theorem Row.jg {w:World}{g k:Nat}{cs:Array Value}{t:TypeId}(h:Row w k cs t)(hne:k≠g)(cs':Array Value):Row (w.setRow g cs') k cs t:=h.same (setRow_other _ _ _ _ hne)
theorem KV {k:Kn}{z:Ef}{j:Nat}{r:Rc}(h:k.L[j]?=some r):iK z ⟨k.hd,k.s.data.toList,k.L.take (j+1)⟩=su k.hd k.s.data.toList (iK z ⟨k.hd,k.s.data.toList,k.L.take j⟩) r:=uU _ _ k.L h
theorem MV {K:List Kn}{i:Nat}{k:Kn}(h:K[i]?=some k):l7 ((K.take (i+1)).map kp)=iK (l7 ((K.take i).map kp)) (kp k):=by
 unfold l7
 rw[List.map_take,List.map_take]
 exact uU _ _ (K.map kp) (by rw[List.getElem?_map,h];rfl)
theorem C8 (w:World)(aao:Option Addr)(ac:Nat)(K:List Kn)(hK:lZ w (.slice aao K.length ac) K) :
  Calls Tryz.prog 82 #[.slice aao K.length ac] w fun e w'=>e=.returned (.agg (tbA (jh (K.map kp))))/\Below w.heap.size w w':=by
 have HK:=hide hK
 have AW:Hid (∀T a b W,Calls Tryz.prog 107 #[.agg (tbA T),.agg (bsA 6 (hb a)),.agg (bsA 6 (hb b))] W fun e w'=>e=.returned (.agg (tbA (cK T a b)))/\Below W.heap.size W w'):=hide (fun T a b W=>OM T a b W)
 have AO:Hid (∀a b W,Calls Tryz.prog 108 #[.agg (bsA 6 (hb a)),.agg (bsA 6 (hb b))] W fun e w'=>e=.returned (.agg (bsA 6 (hb (a ||| b))))/\Below W.heap.size W w'):=hide (fun a b W=>MQ a b W)
 have hl8:=hK.len
 clear hK
 go_enter Tryz.func82,Tryz.ntmps82
 go_wp2_with (first|(refine uq rfl rfl ?_)|(refine I7 rfl rfl ?_)|(refine wpList_store_row rfl 135 _ _ rfl _ (tbA (fun _ _=>false)) rfl rfl 135 (tbA (fun _ _=>false)) ?_ (Tryz.iTb _) rfl (kD _) ?_;(exact heap_alloc_last _ _);rw[World.setRow_alloc_new]))
 have HE0:Hid (EfI w ((((w.alloc (.cells (tbA (fun _ _=>false)) 135)).alloc (.cells (tbA (fun _ _=>false)) 135)).alloc (.cells #[.bool false,.bool false,.bool false,.bool false,.bool false,.bool false] 89)).alloc (.cells #[.bool false,.bool false,.bool false,.bool false,.bool false,.bool false] 89)) ⟨fun _ _=>false,0,0⟩):=by
  obtain ⟨a,b,c,d⟩:=Row.four w (tbA (fun _ _=>false)) (tbA (fun _ _=>false)) #[.bool false,.bool false,.bool false,.bool false,.bool false,.bool false] #[.bool false,.bool false,.bool false,.bool false,.bool false,.bool false] 135 135 89 89
  exact hide ⟨a,b,c,d,uV w _ _ _ _⟩
 generalize (((w.alloc (.cells (tbA (fun _ _=>false)) 135)).alloc (.cells (tbA (fun _ _=>false)) 135)).alloc (.cells #[.bool false,.bool false,.bool false,.bool false,.bool false,.bool false] 89)).alloc (.cells #[.bool false,.bool false,.bool false,.bool false,.bool false,.bool false] 89)=W at *
 go_loopw [17] (fun c wr=>∃i:Nat,i<=K.length/\c=.int .i64 i/\EfI w wr (l7 ((K.take i).map kp))) (fun c _=>K.length-(intOf c).toNat)
 case atStart=>exact ⟨0,by omega,rfl,HE0.out⟩
 case round =>
  clear HE0
  obtain ⟨i,hi,rfl,he⟩:=hrel
  have HE:=hide he
  clear he
  by_cases hlt:i<K.length
  ·obtain ⟨k,hki⟩:∃k,K[i]?=some k:=⟨K[i],List.getElem?_eq_getElem hlt⟩
   have HKI:=hide hki
   have HIN:=hide ((HK.out.each k (List.mem_of_getElem? hki)).below HE.out.b)
   obtain ⟨g0,cap0,hv0,_,hg0,_,_,hr0⟩:=fI wh (je HK.out.own HE.out.b) hki
   cases hv0
   obtain ⟨kao,kc,hkv⟩:=bq HIN.out.own
   have HR0:Hid (wr.rangeAt g0 (i*5) #[.bool k.hd,.bool k.hd,.string k.s,.slice (some ⟨k.lg,0,none⟩) k.s.size k.s.size,.slice kao k.L.length kc].toList):=hide (by unfold knV at hr0;rw[hkv] at hr0;exact hr0)
   have HKV:=hide hkv
   have hi0:(0:Int)<=(i:Int):=by omega
   clear hki hr0 hkv
   have HKn:=hide (HK.out.each k (List.mem_of_getElem? HKI.out))
   obtain ⟨z0,hz0⟩:∃z0,l7 ((K.take i).map kp)=z0:=⟨_,rfl⟩
   have HZ0:=hide hz0
   rw[hz0] at HE
   clear hz0
   have hLl:k.L.length<=100000:=by have h1:=HKn.out.fin.len HKn.out.gb;have h2:=HKn.out.gb.short;have h3:=Nat.mul_le_mul_right 128 (show k.s.data.toList.length+1<=301 by omega);omega
   have hok:=hide HKn.out.gb.pair
   have hks:k.s.size<=300:=HKn.out.short
   go_wp2_with (first|(refine wpList_load_mid rfl 127 _ rfl _ _ rfl #[.bool k.hd,.bool k.hd,.string k.s,.slice (some ⟨k.lg,0,none⟩) k.s.size k.s.size,.slice kao k.L.length kc].toList _ ?_ Tryz.underlying127 rfl Tryz.iKnown ?_;(exact HR0.out))|(refine wpList_store_row rfl 127 _ _ rfl wr.heap.size #[.bool k.hd,.bool k.hd,.string k.s,.slice (some ⟨k.lg,0,none⟩) k.s.size k.s.size,.slice kao k.L.length kc] rfl rfl 127 #[.bool false,.bool false,.string ⟨#[]⟩,.slice none 0 0,.slice none 0 0] ?_ Tryz.iKnown rfl (by simp[Value.oneCell']) ?_;(exact (Row.new wr #[.bool false,.bool false,.string ⟨#[]⟩,.slice none 0 0,.slice none 0 0] 127).raw);rw[World.setRow_alloc_new];have gH:=hide (Row.new wr #[.bool k.hd,.bool k.hd,.string k.s,.slice (some ⟨k.lg,0,none⟩) k.s.size k.s.size,.slice kao k.L.length kc] 127);have HE1:=hide (HE.out.below (aD wr (.cells #[.bool k.hd,.bool k.hd,.string k.s,.slice (some ⟨k.lg,0,none⟩) k.s.size k.s.size,.slice kao k.L.length kc] 127)));have V4:=HE.out.lt;generalize wr.alloc (.cells #[.bool k.hd,.bool k.hd,.string k.s,.slice (some ⟨k.lg,0,none⟩) k.s.size k.s.size,.slice kao k.L.length kc] 127)=w1 at *;have y4:w1.cell? ⟨wr.heap.size,4,none⟩=some (.slice kao k.L.length kc):=gH.out.cell 4 rfl))
   clear HE HIN HR0 y4 hg0
   generalize wr.heap.size=gk at *
   go_loopw [24] (fun c wr2=>∃j:Nat,j<=k.L.length/\c=.int .i64 j/\EfI w wr2 (iK z0 ⟨k.hd,k.s.data.toList,k.L.take j⟩)/\Row wr2 gk #[.bool k.hd,.bool k.hd,.string k.s,.slice (some ⟨k.lg,0,none⟩) k.s.size k.s.size,.slice kao k.L.length kc] 127) (fun c _=>k.L.length-(intOf c).toNat)
   case atStart=>exact ⟨0,by omega,rfl,HE1.out,gH.out⟩
   case round =>
    clear HE1 gH
    obtain ⟨j,hj,rfl,he,hkr⟩:=hrel
    have HE:=hide he
    have HKR:=hide hkr
    clear he hkr
    by_cases hjt:j<k.L.length
    ·obtain ⟨r,hr⟩:∃r,k.L[j]?=some r:=⟨k.L[j],List.getElem?_eq_getElem hjt⟩
     have hmem:=List.mem_of_getElem? hr
     have HRJ:=hide hr
     have hso:=HKn.out.fin.ok HKn.out.gb hmem
     have hrp:r.p<=20000:=by have h1:=hso.2.le;have h2:=HKn.out.gb.short;have h3:r.st.1=r.p:=rfl;omega
     obtain ⟨g1,eH,hv1,_,hg1,_,_,hr1⟩:=sj (HKV.out ▸ (je HKn.out.own HE.out.b)) hr
     cases hv1
     have HR1:Hid (wr.rangeAt g1 (j*10) (rcV r)):=hide hr1
     have hj0:(0:Int)<=(j:Int):=by omega
     have AT:Hid (∀W,Calls Tryz.prog 106 #[.agg #[.bool k.hd,.bool k.hd,.string k.s,.slice (some ⟨k.lg,0,none⟩) k.s.size k.s.size,.slice (some ⟨g1,0,none⟩) k.L.length kc],.agg (rcA r)] W fun e w'=>e=.returned (.agg (bsA 6 (hb (tkP k.s.data.toList r.p r.h))))/\Below W.heap.size W w'):=hide (fun W=>MR k.hd k.s k.lg (some ⟨g1,0,none⟩) k.L.length kc r W hks hrp hok.out)
     obtain ⟨z1,hz1⟩:∃z1,iK z0 ⟨k.hd,k.s.data.toList,k.L.take j⟩=z1:=⟨_,rfl⟩
     have HST:Hid (iK z0 ⟨k.hd,k.s.data.toList,k.L.take (j+1)⟩=⟨cK z1.T r.h (tkP k.s.data.toList r.p r.h),pq k.hd r.off z1.op r.h,pu k.hd z1.tk (tkP k.s.data.toList r.p r.h)⟩):=hide (by rw[KV hr,hz1];rfl)
     rw[hz1] at HE
     clear hz1
     have V5:=HE.out.lt
     clear hr hr1 hso
     generalize tkP k.s.data.toList r.p r.h=tk at *
     have hdc:k.hd=false\/k.hd=true:=by cases k.hd<;>simp
     have hoc:r.off=false\/r.off=true:=by cases r.off<;>simp
     rcases hdc with jK|jK
     ·rcases hoc with tC|tC
      ·have HHD:=hide jK
       have HOF:=hide tC
       clear jK tC
       go_wp2_with (first|(refine wpList_store_row rfl 89 _ _ rfl (w.heap.size+2) (bsA 6 (hb (z1.op ||| r.h))) rfl rfl 89 (bsA 6 (hb z1.op)) ?_ (Tryz.iHeldB _) (by rw[iX,iX]) (iI _ _) ?_;(exact HE7.out.op.raw);have HE8:=hide (HE7.out.aA (z1.op ||| r.h));have Am:=hide (Ao.out.jg (g:=w.heap.size+2) (by omega) (bsA 6 (hb (z1.op ||| r.h))));generalize w7.setRow (w.heap.size+2) (bsA 6 (hb (z1.op ||| r.h)))=w8 at *)|(go_at_call 108;refine (AO.out _ _ _).mono ?_;rintro e w7 ⟨rfl,hb7⟩;have HE7:=hide (HE6.out.below hb7);have Ao:=hide (nS.out.below hb7);clear hb7)|(refine wpList_load_row rfl 89 _ rfl _ rfl 89 (bsA 6 (hb z1.op)) (0,0) _ ?_ Tryz.underlying89 rfl (Tryz.iHeldB _) ?_;(exact HE6.out.op.raw))|(refine wpList_load_row rfl 89 _ rfl _ rfl 89 (bsA 6 (hb r.h)) (0,0) _ ?_ Tryz.underlying89 rfl (Tryz.iHeldB _) ?_;(exact Ap.out.raw))|(refine wpList_store_row rfl 135 _ _ rfl (w.heap.size+1) (tbA (cK z1.T r.h tk)) rfl rfl 135 (tbA z1.T) ?_ (Tryz.iTb _) (by rw[fE,fE]) (kD _) ?_;(exact HE5.out.fd.raw);have HE6:=hide (HE5.out.fK (cK z1.T r.h tk));have nS:=hide (tF.out.jg (g:=w.heap.size+1) (by omega) (tbA (cK z1.T r.h tk)));have wW:=hide (tH.out.jg (g:=w.heap.size+1) (by omega) (tbA (cK z1.T r.h tk)));have Ap:=hide (tJ.out.jg (g:=w.heap.size+1) (by omega) (tbA (cK z1.T r.h tk)));have Aq:=hide (tK.out.jg (g:=w.heap.size+1) (by omega) (tbA (cK z1.T r.h tk)));generalize w5.setRow (w.heap.size+1) (tbA (cK z1.T r.h tk))=w6 at *;have y0:w6.cell? ⟨gk,0,none⟩=some (.bool false):=(HHD.out ▸ nS.out.cell 0 (v:=.bool k.hd) rfl);have y7:w6.cell? ⟨wr.heap.size,7,none⟩=some (.bool false):=(HOF.out ▸ wW.out.cell 7 (Fz r)))|(go_at_call 107;refine (AW.out _ _ _ _).mono ?_;rintro e w5 ⟨rfl,hb5⟩;have HE5:=hide (HE4.out.below hb5);have tF:=hide (tL.out.below hb5);have tH:=hide (mW.out.below hb5);have tJ:=hide (nT.out.below hb5);have tK:=hide (nU.out.below hb5);have hz5:=hb5.size;clear hb5)|(refine wpList_load_row rfl 135 _ rfl _ rfl 135 (tbA z1.T) (0,0) _ ?_ Tryz.underlying135 rfl (Tryz.iTb _) ?_;(exact HE4.out.fd.raw))|(refine wpList_load_row rfl 89 _ rfl _ rfl 89 (bsA 6 (hb r.h)) (0,0) _ ?_ Tryz.underlying89 rfl (Tryz.iHeldB _) ?_;(exact nT.out.raw))|(refine wpList_load_row rfl 89 _ rfl _ rfl 89 (bsA 6 (hb tk)) (0,0) _ ?_ Tryz.underlying89 rfl (Tryz.iHeldB _) ?_;(exact nU.out.raw))|(refine wpList_store_row rfl 89 _ _ rfl w3.heap.size (bsA 6 (hb tk)) rfl rfl 89 #[.bool false,.bool false,.bool false,.bool false,.bool false,.bool false] ?_ (Tryz.iHeldB _) rfl (iI _ _) ?_;(exact (Row.new w3 #[.bool false,.bool false,.bool false,.bool false,.bool false,.bool false] 89).raw);rw[World.setRow_alloc_new];have tL:=hide (jA.out.alloc (.cells (bsA 6 (hb tk)) 89));have mW:=hide (dW.out.alloc (.cells (bsA 6 (hb tk)) 89));have nT:=hide (tN.out.alloc (.cells (bsA 6 (hb tk)) 89));have HE4:=hide (HE3.out.below (aD w3 (.cells (bsA 6 (hb tk)) 89)));have nU:=hide (Row.new w3 (bsA 6 (hb tk)) 89);have hz4:w3.heap.size<(w3.alloc (.cells (bsA 6 (hb tk)) 89)).heap.size:=Row.lt (Row.new w3 (bsA 6 (hb tk)) 89);generalize w3.alloc (.cells (bsA 6 (hb tk)) 89)=w4 at *;skip)|(go_at_call 106;refine (AT.out _).mono ?_;rintro e w3 ⟨rfl,hb3⟩;have HE3:=hide (HE2.out.below hb3);have jA:=hide (jB.out.below hb3);have dW:=hide (bL.out.below hb3);have tN:=hide (tO.out.below hb3);have hz3:=hb3.size;clear hb3)|(refine wpList_load_row rfl 127 _ rfl _ rfl 127 #[.bool k.hd,.bool k.hd,.string k.s,.slice (some ⟨k.lg,0,none⟩) k.s.size k.s.size,.slice (some ⟨g1,0,none⟩) k.L.length kc] (0,0) _ ?_ Tryz.underlying127 rfl Tryz.iKnown ?_;(exact jB.out.raw))|(refine wpList_load_row rfl 130 _ rfl _ rfl 130 (rcA r) (0,0) _ ?_ Tryz.underlying130 rfl (Tryz.iRc _) ?_;(exact bL.out.raw))|(refine wpList_store_row rfl 89 _ _ rfl w1.heap.size (bsA 6 (hb r.h)) rfl rfl 89 #[.bool false,.bool false,.bool false,.bool false,.bool false,.bool false] ?_ (Tryz.iHeldB _) rfl (iI _ _) ?_;(exact (Row.new w1 #[.bool false,.bool false,.bool false,.bool false,.bool false,.bool false] 89).raw);rw[World.setRow_alloc_new];have jB:=hide (gH.out.alloc (.cells (bsA 6 (hb r.h)) 89));have bL:=hide (aV.out.alloc (.cells (bsA 6 (hb r.h)) 89));have HE2:=hide (HE1.out.below (aD w1 (.cells (bsA 6 (hb r.h)) 89)));have tO:=hide (Row.new w1 (bsA 6 (hb r.h)) 89);have hz2:w1.heap.size<(w1.alloc (.cells (bsA 6 (hb r.h)) 89)).heap.size:=Row.lt (Row.new w1 (bsA 6 (hb r.h)) 89);generalize w1.alloc (.cells (bsA 6 (hb r.h)) 89)=w2 at *;skip)|(refine lm rfl 89 _ rfl _ _ rfl 6 (hb r.h) _ ?_ Tryz.uHeld rfl Tryz.iHeld ?_;(exact aV.out.nL))|(refine wpList_store_row rfl 130 _ _ rfl wr.heap.size (rcA r) rfl rfl 130 #[.int .i64 0,.bool false,.bool false,.bool false,.bool false,.bool false,.bool false,.bool false,.int .i64 0,.bool false] ?_ (Tryz.iRc _) rfl (gW _) ?_;(exact (Row.new wr #[.int .i64 0,.bool false,.bool false,.bool false,.bool false,.bool false,.bool false,.bool false,.int .i64 0,.bool false] 130).raw);rw[World.setRow_alloc_new];have gH:=hide (HKR.out.alloc (.cells (rcA r) 130));have HE1:=hide (HE.out.below (aD wr (.cells (rcA r) 130)));have aV:=hide (Row.new wr (rcA r) 130);have hz1:wr.heap.size<(wr.alloc (.cells (rcA r) 130)).heap.size:=Row.lt (Row.new wr (rcA r) 130);generalize wr.alloc (.cells (rcA r) 130)=w1 at *;skip)|(refine wpList_load_mid rfl 130 _ rfl _ _ rfl (rcV r) _ ?_ Tryz.underlying130 rfl Tryz.iReached ?_;(exact HR1.out)))
       go_round
       case measure=>simp[intOf];omega
       case rel=>exact ⟨j+1,by omega,by go_num,by rw[HST.out];simp only[HHD.out,HOF.out,pq,pu];simp;exact HE8.out,Am.out⟩
      ·have HHD:=hide jK
       have HOF:=hide tC
       clear jK tC
       go_wp2_with (first|(refine wpList_store_row rfl 135 _ _ rfl (w.heap.size+1) (tbA (cK z1.T r.h tk)) rfl rfl 135 (tbA z1.T) ?_ (Tryz.iTb _) (by rw[fE,fE]) (kD _) ?_;(exact HE5.out.fd.raw);have HE6:=hide (HE5.out.fK (cK z1.T r.h tk));have nS:=hide (tF.out.jg (g:=w.heap.size+1) (by omega) (tbA (cK z1.T r.h tk)));have wW:=hide (tH.out.jg (g:=w.heap.size+1) (by omega) (tbA (cK z1.T r.h tk)));have Ap:=hide (tJ.out.jg (g:=w.heap.size+1) (by omega) (tbA (cK z1.T r.h tk)));have Aq:=hide (tK.out.jg (g:=w.heap.size+1) (by omega) (tbA (cK z1.T r.h tk)));generalize w5.setRow (w.heap.size+1) (tbA (cK z1.T r.h tk))=w6 at *;have y0:w6.cell? ⟨gk,0,none⟩=some (.bool false):=(HHD.out ▸ nS.out.cell 0 (v:=.bool k.hd) rfl);have y7:w6.cell? ⟨wr.heap.size,7,none⟩=some (.bool true):=(HOF.out ▸ wW.out.cell 7 (Fz r)))|(go_at_call 107;refine (AW.out _ _ _ _).mono ?_;rintro e w5 ⟨rfl,hb5⟩;have HE5:=hide (HE4.out.below hb5);have tF:=hide (tL.out.below hb5);have tH:=hide (mW.out.below hb5);have tJ:=hide (nT.out.below hb5);have tK:=hide (nU.out.below hb5);have hz5:=hb5.size;clear hb5)|(refine wpList_load_row rfl 135 _ rfl _ rfl 135 (tbA z1.T) (0,0) _ ?_ Tryz.underlying135 rfl (Tryz.iTb _) ?_;(exact HE4.out.fd.raw))|(refine wpList_load_row rfl 89 _ rfl _ rfl 89 (bsA 6 (hb r.h)) (0,0) _ ?_ Tryz.underlying89 rfl (Tryz.iHeldB _) ?_;(exact nT.out.raw))|(refine wpList_load_row rfl 89 _ rfl _ rfl 89 (bsA 6 (hb tk)) (0,0) _ ?_ Tryz.underlying89 rfl (Tryz.iHeldB _) ?_;(exact nU.out.raw))|(refine wpList_store_row rfl 89 _ _ rfl w3.heap.size (bsA 6 (hb tk)) rfl rfl 89 #[.bool false,.bool false,.bool false,.bool false,.bool false,.bool false] ?_ (Tryz.iHeldB _) rfl (iI _ _) ?_;(exact (Row.new w3 #[.bool false,.bool false,.bool false,.bool false,.bool false,.bool false] 89).raw);rw[World.setRow_alloc_new];have tL:=hide (jA.out.alloc (.cells (bsA 6 (hb tk)) 89));have mW:=hide (dW.out.alloc (.cells (bsA 6 (hb tk)) 89));have nT:=hide (tN.out.alloc (.cells (bsA 6 (hb tk)) 89));have HE4:=hide (HE3.out.below (aD w3 (.cells (bsA 6 (hb tk)) 89)));have nU:=hide (Row.new w3 (bsA 6 (hb tk)) 89);have hz4:w3.heap.size<(w3.alloc (.cells (bsA 6 (hb tk)) 89)).heap.size:=Row.lt (Row.new w3 (bsA 6 (hb tk)) 89);generalize w3.alloc (.cells (bsA 6 (hb tk)) 89)=w4 at *;skip)|(go_at_call 106;refine (AT.out _).mono ?_;rintro e w3 ⟨rfl,hb3⟩;have HE3:=hide (HE2.out.below hb3);have jA:=hide (jB.out.below hb3);have dW:=hide (bL.out.below hb3);have tN:=hide (tO.out.below hb3);have hz3:=hb3.size;clear hb3)|(refine wpList_load_row rfl 127 _ rfl _ rfl 127 #[.bool k.hd,.bool k.hd,.string k.s,.slice (some ⟨k.lg,0,none⟩) k.s.size k.s.size,.slice (some ⟨g1,0,none⟩) k.L.length kc] (0,0) _ ?_ Tryz.underlying127 rfl Tryz.iKnown ?_;(exact jB.out.raw))|(refine wpList_load_row rfl 130 _ rfl _ rfl 130 (rcA r) (0,0) _ ?_ Tryz.underlying130 rfl (Tryz.iRc _) ?_;(exact bL.out.raw))|(refine wpList_store_row rfl 89 _ _ rfl w1.heap.size (bsA 6 (hb r.h)) rfl rfl 89 #[.bool false,.bool false,.bool false,.bool false,.bool false,.bool false] ?_ (Tryz.iHeldB _) rfl (iI _ _) ?_;(exact (Row.new w1 #[.bool false,.bool false,.bool false,.bool false,.bool false,.bool false] 89).raw);rw[World.setRow_alloc_new];have jB:=hide (gH.out.alloc (.cells (bsA 6 (hb r.h)) 89));have bL:=hide (aV.out.alloc (.cells (bsA 6 (hb r.h)) 89));have HE2:=hide (HE1.out.below (aD w1 (.cells (bsA 6 (hb r.h)) 89)));have tO:=hide (Row.new w1 (bsA 6 (hb r.h)) 89);have hz2:w1.heap.size<(w1.alloc (.cells (bsA 6 (hb r.h)) 89)).heap.size:=Row.lt (Row.new w1 (bsA 6 (hb r.h)) 89);generalize w1.alloc (.cells (bsA 6 (hb r.h)) 89)=w2 at *;skip)|(refine lm rfl 89 _ rfl _ _ rfl 6 (hb r.h) _ ?_ Tryz.uHeld rfl Tryz.iHeld ?_;(exact aV.out.nL))|(refine wpList_store_row rfl 130 _ _ rfl wr.heap.size (rcA r) rfl rfl 130 #[.int .i64 0,.bool false,.bool false,.bool false,.bool false,.bool false,.bool false,.bool false,.int .i64 0,.bool false] ?_ (Tryz.iRc _) rfl (gW _) ?_;(exact (Row.new wr #[.int .i64 0,.bool false,.bool false,.bool false,.bool false,.bool false,.bool false,.bool false,.int .i64 0,.bool false] 130).raw);rw[World.setRow_alloc_new];have gH:=hide (HKR.out.alloc (.cells (rcA r) 130));have HE1:=hide (HE.out.below (aD wr (.cells (rcA r) 130)));have aV:=hide (Row.new wr (rcA r) 130);have hz1:wr.heap.size<(wr.alloc (.cells (rcA r) 130)).heap.size:=Row.lt (Row.new wr (rcA r) 130);generalize wr.alloc (.cells (rcA r) 130)=w1 at *;skip)|(refine wpList_load_mid rfl 130 _ rfl _ _ rfl (rcV r) _ ?_ Tryz.underlying130 rfl Tryz.iReached ?_;(exact HR1.out)))
       go_round
       case measure=>simp[intOf];omega
       case rel=>exact ⟨j+1,by omega,by go_num,by rw[HST.out];simp only[HHD.out,HOF.out,pq,pu];simp;exact HE6.out,nS.out⟩
     ·have HHD:=hide jK
      have HOF:=hide (show True from trivial)
      clear jK hoc
      go_wp2_with (first|(refine wpList_store_row rfl 89 _ _ rfl (w.heap.size+3) (bsA 6 (hb (z1.tk ||| tk))) rfl rfl 89 (bsA 6 (hb z1.tk)) ?_ (Tryz.iHeldB _) (by rw[iX,iX]) (iI _ _) ?_;(exact HE7.out.tk.raw);have HE8:=hide (HE7.out.wV (z1.tk ||| tk));have Am:=hide (Ao.out.jg (g:=w.heap.size+3) (by omega) (bsA 6 (hb (z1.tk ||| tk))));generalize w7.setRow (w.heap.size+3) (bsA 6 (hb (z1.tk ||| tk)))=w8 at *)|(go_at_call 108;refine (AO.out _ _ _).mono ?_;rintro e w7 ⟨rfl,hb7⟩;have HE7:=hide (HE6.out.below hb7);have Ao:=hide (nS.out.below hb7);clear hb7)|(refine wpList_load_row rfl 89 _ rfl _ rfl 89 (bsA 6 (hb z1.tk)) (0,0) _ ?_ Tryz.underlying89 rfl (Tryz.iHeldB _) ?_;(exact HE6.out.tk.raw))|(refine wpList_load_row rfl 89 _ rfl _ rfl 89 (bsA 6 (hb tk)) (0,0) _ ?_ Tryz.underlying89 rfl (Tryz.iHeldB _) ?_;(exact Aq.out.raw))|(refine wpList_store_row rfl 135 _ _ rfl (w.heap.size+1) (tbA (cK z1.T r.h tk)) rfl rfl 135 (tbA z1.T) ?_ (Tryz.iTb _) (by rw[fE,fE]) (kD _) ?_;(exact HE5.out.fd.raw);have HE6:=hide (HE5.out.fK (cK z1.T r.h tk));have nS:=hide (tF.out.jg (g:=w.heap.size+1) (by omega) (tbA (cK z1.T r.h tk)));have wW:=hide (tH.out.jg (g:=w.heap.size+1) (by omega) (tbA (cK z1.T r.h tk)));have Ap:=hide (tJ.out.jg (g:=w.heap.size+1) (by omega) (tbA (cK z1.T r.h tk)));have Aq:=hide (tK.out.jg (g:=w.heap.size+1) (by omega) (tbA (cK z1.T r.h tk)));generalize w5.setRow (w.heap.size+1) (tbA (cK z1.T r.h tk))=w6 at *;have y0:w6.cell? ⟨gk,0,none⟩=some (.bool true):=(HHD.out ▸ nS.out.cell 0 (v:=.bool k.hd) rfl))|(go_at_call 107;refine (AW.out _ _ _ _).mono ?_;rintro e w5 ⟨rfl,hb5⟩;have HE5:=hide (HE4.out.below hb5);have tF:=hide (tL.out.below hb5);have tH:=hide (mW.out.below hb5);have tJ:=hide (nT.out.below hb5);have tK:=hide (nU.out.below hb5);have hz5:=hb5.size;clear hb5)|(refine wpList_load_row rfl 135 _ rfl _ rfl 135 (tbA z1.T) (0,0) _ ?_ Tryz.underlying135 rfl (Tryz.iTb _) ?_;(exact HE4.out.fd.raw))|(refine wpList_load_row rfl 89 _ rfl _ rfl 89 (bsA 6 (hb r.h)) (0,0) _ ?_ Tryz.underlying89 rfl (Tryz.iHeldB _) ?_;(exact nT.out.raw))|(refine wpList_load_row rfl 89 _ rfl _ rfl 89 (bsA 6 (hb tk)) (0,0) _ ?_ Tryz.underlying89 rfl (Tryz.iHeldB _) ?_;(exact nU.out.raw))|(refine wpList_store_row rfl 89 _ _ rfl w3.heap.size (bsA 6 (hb tk)) rfl rfl 89 #[.bool false,.bool false,.bool false,.bool false,.bool false,.bool false] ?_ (Tryz.iHeldB _) rfl (iI _ _) ?_;(exact (Row.new w3 #[.bool false,.bool false,.bool false,.bool false,.bool false,.bool false] 89).raw);rw[World.setRow_alloc_new];have tL:=hide (jA.out.alloc (.cells (bsA 6 (hb tk)) 89));have mW:=hide (dW.out.alloc (.cells (bsA 6 (hb tk)) 89));have nT:=hide (tN.out.alloc (.cells (bsA 6 (hb tk)) 89));have HE4:=hide (HE3.out.below (aD w3 (.cells (bsA 6 (hb tk)) 89)));have nU:=hide (Row.new w3 (bsA 6 (hb tk)) 89);have hz4:w3.heap.size<(w3.alloc (.cells (bsA 6 (hb tk)) 89)).heap.size:=Row.lt (Row.new w3 (bsA 6 (hb tk)) 89);generalize w3.alloc (.cells (bsA 6 (hb tk)) 89)=w4 at *;skip)|(go_at_call 106;refine (AT.out _).mono ?_;rintro e w3 ⟨rfl,hb3⟩;have HE3:=hide (HE2.out.below hb3);have jA:=hide (jB.out.below hb3);have dW:=hide (bL.out.below hb3);have tN:=hide (tO.out.below hb3);have hz3:=hb3.size;clear hb3)|(refine wpList_load_row rfl 127 _ rfl _ rfl 127 #[.bool k.hd,.bool k.hd,.string k.s,.slice (some ⟨k.lg,0,none⟩) k.s.size k.s.size,.slice (some ⟨g1,0,none⟩) k.L.length kc] (0,0) _ ?_ Tryz.underlying127 rfl Tryz.iKnown ?_;(exact jB.out.raw))|(refine wpList_load_row rfl 130 _ rfl _ rfl 130 (rcA r) (0,0) _ ?_ Tryz.underlying130 rfl (Tryz.iRc _) ?_;(exact bL.out.raw))|(refine wpList_store_row rfl 89 _ _ rfl w1.heap.size (bsA 6 (hb r.h)) rfl rfl 89 #[.bool false,.bool false,.bool false,.bool false,.bool false,.bool false] ?_ (Tryz.iHeldB _) rfl (iI _ _) ?_;(exact (Row.new w1 #[.bool false,.bool false,.bool false,.bool false,.bool false,.bool false] 89).raw);rw[World.setRow_alloc_new];have jB:=hide (gH.out.alloc (.cells (bsA 6 (hb r.h)) 89));have bL:=hide (aV.out.alloc (.cells (bsA 6 (hb r.h)) 89));have HE2:=hide (HE1.out.below (aD w1 (.cells (bsA 6 (hb r.h)) 89)));have tO:=hide (Row.new w1 (bsA 6 (hb r.h)) 89);have hz2:w1.heap.size<(w1.alloc (.cells (bsA 6 (hb r.h)) 89)).heap.size:=Row.lt (Row.new w1 (bsA 6 (hb r.h)) 89);generalize w1.alloc (.cells (bsA 6 (hb r.h)) 89)=w2 at *;skip)|(refine lm rfl 89 _ rfl _ _ rfl 6 (hb r.h) _ ?_ Tryz.uHeld rfl Tryz.iHeld ?_;(exact aV.out.nL))|(refine wpList_store_row rfl 130 _ _ rfl wr.heap.size (rcA r) rfl rfl 130 #[.int .i64 0,.bool false,.bool false,.bool false,.bool false,.bool false,.bool false,.bool false,.int .i64 0,.bool false] ?_ (Tryz.iRc _) rfl (gW _) ?_;(exact (Row.new wr #[.int .i64 0,.bool false,.bool false,.bool false,.bool false,.bool false,.bool false,.bool false,.int .i64 0,.bool false] 130).raw);rw[World.setRow_alloc_new];have gH:=hide (HKR.out.alloc (.cells (rcA r) 130));have HE1:=hide (HE.out.below (aD wr (.cells (rcA r) 130)));have aV:=hide (Row.new wr (rcA r) 130);have hz1:wr.heap.size<(wr.alloc (.cells (rcA r) 130)).heap.size:=Row.lt (Row.new wr (rcA r) 130);generalize wr.alloc (.cells (rcA r) 130)=w1 at *;skip)|(refine wpList_load_mid rfl 130 _ rfl _ _ rfl (rcV r) _ ?_ Tryz.underlying130 rfl Tryz.iReached ?_;(exact HR1.out)))
      go_round
      case measure=>simp[intOf];omega
      case rel=>exact ⟨j+1,by omega,by go_num,by rw[HST.out];simp only[HHD.out,pq,pu];simp;exact HE8.out,Am.out⟩
    ·have e:j=k.L.length:=by omega
     subst e
     rw[List.take_length] at HE
     go_wp2
     go_round
     case measure=>simp[intOf];omega
     case rel=>exact ⟨i+1,by omega,by go_num,by rw[MV HKI.out,HZ0.out];exact HE.out⟩
  ·have e:i=K.length:=by omega
   subst e
   rw[List.take_length] at HE
   obtain ⟨z0,hz⟩:∃z0,l7 (K.map kp)=z0:=⟨_,rfl⟩
   have HZE:Hid (jh (K.map kp)=cK z0.T z0.op z0.tk):=hide (by unfold jh;rw[hz])
   rw[hz] at HE
   clear hz
   go_wp2_with (first|(refine wpList_load_row rfl 135 _ rfl _ rfl 135 (tbA z0.T) (0,0) _ ?_ Tryz.underlying135 rfl (Tryz.iTb _) ?_;(exact HE.out.fd.raw))|(refine wpList_load_row rfl 89 _ rfl _ rfl 89 (bsA 6 (hb z0.op)) (0,0) _ ?_ Tryz.underlying89 rfl (Tryz.iHeldB _) ?_;(exact HE.out.op.raw))|(refine wpList_load_row rfl 89 _ rfl _ rfl 89 (bsA 6 (hb z0.tk)) (0,0) _ ?_ Tryz.underlying89 rfl (Tryz.iHeldB _) ?_;(exact HE.out.tk.raw))|(go_at_call 107;refine (AW.out _ _ _ _).mono ?_;rintro e w9 ⟨rfl,hb9⟩;have HE9:=hide (HE.out.below hb9);clear hb9)|(refine wpList_store_row rfl 135 _ _ rfl (w.heap.size) (tbA (cK z0.T z0.op z0.tk)) rfl rfl 135 (tbA (fun _ _=>false)) ?_ (Tryz.iTb _) (by rw[fE,fE]) (kD _) ?_;(exact HE9.out.res.raw)))
   exact bodyPost_ret (v:=.agg (tbA (cK z0.T z0.op z0.tk))) (results_cell_row Tryz.results82 _ _ w.heap.size 135 _ (0,0) _ rfl (HE9.out.res.setRow _).raw Tryz.underlying135 rfl (Tryz.iTb _)) rfl ⟨by rw[HZE.out],below_setRow HE9.out.b (by omega) _⟩
end
end Go.Proofs.YtecmfdkhcffpmaaGreat
