/- StP, StQ. -/
import Derived.Test.YtecmfdkhcffpmaaGreatB46
import Derived.Test.YtecmfdkhcffpmaaGreatB45
namespace Go.Proofs.YtecmfdkhcffpmaaGreat
open Go.RowKit
set_option linter.unusedVariables false
set_option linter.unusedSimpArgs false
set_option linter.unusedSectionVars false
set_option maxHeartbeats 8000000
set_option maxRecDepth 100000
section
open Mc
def stV (r:Rc):List Value:=(stA r.p r.h r.off).toList
theorem qC (r:Rc):(stV r).toArray=stA r.p r.h r.off:=rfl
theorem Tryz.iStV (r:Rc):(Tryz.prog.info? 91).map (·.size)=some (stV r).length:=Tryz.iState
theorem Row.st8 {w:World}{g:Nat}{r:Rc}(h:Row w g (rcA r) 130):w.rangeAt g 0 (stV r):=h.range 0 _ (fun j v hj=>by
 rw[Nat.zero_add]
 have hlt:j<8:=(List.getElem?_eq_some_iff.1 hj).1
 show (rcV r).toArray[j]?=_
 rw[List.getElem?_toArray,rcV,List.getElem?_append_left (by exact hlt)]
 exact hj)
theorem seen_ints (w:World)(n:Nat):Blk (w.alloc (.cells (madeCells #[.int .i64 0] n) 3)) w.heap.size n (fun i=>.int .i64 0):=by
 refine ⟨_,_,heap_alloc_last _ _,fun i hi=>?_⟩
 rw[qZ _ _ _ hi]
 show some ((#[Value.int .i64 0])[i%1]!)=_
 rw[Nat.mod_one];rfl
structure KdI (w W:World)(k:Kn)(kao:Option Addr)(kc N g:Nat)(f:Nat->Int):Prop where
 kr:Row W w.heap.size #[.bool k.hd,.bool k.hd,.string k.s,.slice (some ⟨k.lg,0,none⟩) k.s.size k.s.size,.slice kao k.L.length kc] 127
 bl:Blk W g N (fun p=>.int .i64 (f p))
 ge:w.heap.size<g
 b:Below w.heap.size w W
theorem KdI.below {w W W':World}{k:Kn}{kao:Option Addr}{kc N g:Nat}{f:Nat->Int}(h:KdI w W k kao kc N g f)(hb:Below W.heap.size W W'):KdI w W' k kao kc N g f:=⟨h.kr.below hb,h.bl.below hb,h.ge,ak h.b hb⟩
theorem KdI.set {w W:World}{k:Kn}{kao:Option Addr}{kc N g:Nat}{f:Nat->Int}(h:KdI w W k kao kc N g f)(p:Nat)(v:Int):KdI w (W.setCell ⟨g,p,none⟩ (.int .i64 v)) k kao kc N g (fun q=>if q=p then v else f q):=by
 have hg:=h.ge
 refine ⟨h.kr.aA (by omega) _ _,(h.bl.set p _).congr (fun i hi=>?_),h.ge,h.b.setCell (show w.heap.size<=g by omega) _⟩
 by_cases e:i=p<;>simp[e]
theorem Pf (w:World)(k:Kn)(kao:Option Addr)(kc N:Nat)(hN:k.s.size+1=N)(hkv:k.v=.slice kao k.L.length kc)(hin:kS w k) :
  Calls Tryz.prog 98 #[.agg #[.bool k.hd,.bool k.hd,.string k.s,.slice (some ⟨k.lg,0,none⟩) k.s.size k.s.size,.slice kao k.L.length kc]] w fun e w'=>∃g,e=.returned (.slice (some ⟨g,0,none⟩) N N)/\w.heap.size<=g/\Blk w' g N (fun p=>.int .i64 (kAt k.hd k.s.data.toList k.L p))/\Below w.heap.size w w':=by
 have HIN:=hide hin
 have HKV:=hide hkv
 have hLl:k.L.length<=100000:=by have h1:=hin.fin.len hin.gb;have h2:=hin.gb.short;have h3:=Nat.mul_le_mul_right 128 (show k.s.data.toList.length+1<=301 by omega);omega
 have hok:=hide hin.gb.pair
 have hks:k.s.size<=300:=hin.short
 clear hin hkv
 have AE:=hide (fun W=>CG k.hd k.s (some ⟨k.lg,0,none⟩) k.s.size k.s.size W (by omega))
 have hmk:=fun W=>zn W N (by omega)
 have hn1:(k.s.size:Int)+1=(N:Int):=by omega
 have hNN:N<=301:=by omega
 have HNN:=hide hN
 clear hN
 have wZ:=hide (Row.new w #[.bool k.hd,.bool k.hd,.string k.s,.slice (some ⟨k.lg,0,none⟩) k.s.size k.s.size,.slice kao k.L.length kc] 127)
 have HB0:=hide (aD w (.cells #[.bool k.hd,.bool k.hd,.string k.s,.slice (some ⟨k.lg,0,none⟩) k.s.size k.s.size,.slice kao k.L.length kc] 127))
 go_enter Tryz.func98,Tryz.ntmps98
 go_wp2_with (first|(go_at_call 124;refine (AE.out _).mono ?_;rintro e w1 ⟨rfl,hb1⟩;have HK1:Hid (KdI w (w1.alloc (.cells (madeCells #[.int .i64 0] N) 3)) k kao kc N w1.heap.size (fun _=>0)):=hide ⟨(wZ.out.below hb1).alloc _,seen_ints w1 _,(wZ.out.below hb1).lt,aL (ak HB0.out hb1) _⟩;have y4:(w1.alloc (.cells (madeCells #[.int .i64 0] N) 3)).cell? ⟨w.heap.size,4,none⟩=some (.slice kao k.L.length kc):=HK1.out.kr.cell 4 rfl;clear hb1)|(refine wpList_load_mid rfl 88 _ rfl _ _ rfl [.bool k.hd,.string k.s,.slice (some ⟨k.lg,0,none⟩) k.s.size k.s.size] _ ?_ Tryz.underlying88 rfl Tryz.iCode ?_;(exact wZ.out.gM)))
 clear y4 wZ HB0 AE hmk
 generalize w1.alloc (.cells (madeCells #[.int .i64 0] N) 3)=W at *
 generalize w1.heap.size=gk at *
 go_loopw [16] (fun a wr=>∃j:Nat,j<=k.L.length/\a=.int .i64 j/\KdI w wr k kao kc N gk (kAt k.hd k.s.data.toList (k.L.take j))) (fun a _=>k.L.length-(intOf a).toNat)
 case atStart=>exact ⟨0,by omega,rfl,HK1.out⟩
 case round =>
  clear HK1
  obtain ⟨j,hj,rfl,hk⟩:=hrel
  have HK:=hide hk
  clear hk
  by_cases hjt:j<k.L.length
  ·obtain ⟨r,hr⟩:∃r,k.L[j]?=some r:=⟨k.L[j],List.getElem?_eq_getElem hjt⟩
   have hso:=HIN.out.fin.ok HIN.out.gb (List.mem_of_getElem? hr)
   have hrN:r.p<N:=by have h1:=hso.2.le;have h3:r.st.1=r.p:=rfl;have h4:=Wd.aI k.s;have h5:=HNN.out;omega
   have hrh:r.h<64:=hso.1
   obtain ⟨g1,eH,hv1,_,hg1,_,_,hr1⟩:=sj (HKV.out ▸ (je HIN.out.own HK.out.b)) hr
   cases hv1
   have HR1:Hid (wr.rangeAt g1 (j*10) (rcV r)):=hide hr1
   have hj0:(0:Int)<=(j:Int):=by omega
   obtain ⟨f,hf⟩:∃f,kAt k.hd k.s.data.toList (k.L.take j)=f:=⟨_,rfl⟩
   have HTK:=hide (QD (hd:=k.hd) (b:=k.s.data.toList) hr)
   rw[hf] at HK HTK
   have AK:Hid (∀W,Calls Tryz.prog 78 #[.agg [.bool k.hd,.string k.s,.slice (some ⟨k.lg,0,none⟩) k.s.size k.s.size].toArray,.agg (stA r.p r.h r.off)] W fun e w'=>e=.returned (.int .i64 (kd k.hd k.s.data.toList r.st))/\Below W.heap.size W w'):=hide (fun W=>DC k.hd k.s (some ⟨k.lg,0,none⟩) k.s.size k.s.size r.p r.h r.off W (by omega) (by omega) hrh hok.out)
   have HUP:Hid (kUp k.hd k.s.data.toList f r=fun p=>if p=r.p/\kd k.hd k.s.data.toList r.st≠0 then kd k.hd k.s.data.toList r.st else f p):=hide rfl
   rw[HTK.out.symm] at HUP
   have hkb:=wN k.hd k.s.data.toList r.st
   clear hr hr1 hso hf HTK
   generalize kd k.hd k.s.data.toList r.st=v at *
   have hrI:(r.p:Int)<(N:Int):=by omega
   have Wh:(0:Int)<=(r.p:Int):=by omega
   by_cases hv:v=0
   ·subst hv
    go_wp2_with (first|(go_at_call 78;refine (AK.out _).mono ?_;rintro e w2 ⟨rfl,hb2⟩;have HK2:=hide (HK1.out.below hb2);clear hb2;have q1:=HK2.out.bl.cell r.p hrN;have f1:=HK2.out.bl.frozen r.p)|(refine wpList_load_mid rfl 91 _ rfl _ _ rfl (stV r) _ ?_ Tryz.underlying91 rfl (Tryz.iStV r) ?_;(exact aV.out.st8);rw[qC])|(refine wpList_load_mid rfl 88 _ rfl _ _ rfl [.bool k.hd,.string k.s,.slice (some ⟨k.lg,0,none⟩) k.s.size k.s.size] _ ?_ Tryz.underlying88 rfl Tryz.iCode ?_;(exact HK1.out.kr.gM))|(refine wpList_store_row rfl 130 _ _ rfl wr.heap.size (rcA r) rfl rfl 130 #[.int .i64 0,.bool false,.bool false,.bool false,.bool false,.bool false,.bool false,.bool false,.int .i64 0,.bool false] ?_ (Tryz.iRc _) rfl (gW _) ?_;(exact (Row.new wr #[.int .i64 0,.bool false,.bool false,.bool false,.bool false,.bool false,.bool false,.bool false,.int .i64 0,.bool false] 130).raw);rw[World.setRow_alloc_new];have HK1:=hide (HK.out.below (aD wr (.cells (rcA r) 130)));have aV:=hide (Row.new wr (rcA r) 130);generalize wr.alloc (.cells (rcA r) 130)=w1 at *;have p1:w1.cell? ⟨wr.heap.size,0,none⟩=some (.int .i64 (r.p:Int)):=aV.out.cell 0 (fq r))|(refine wpList_load_mid rfl 130 _ rfl _ _ rfl (rcV r) _ ?_ Tryz.underlying130 rfl Tryz.iReached ?_;(exact HR1.out)))
    go_round
    case measure=>simp[intOf];omega
    case rel=>exact ⟨j+1,by omega,by go_num,by rw[HUP.out];simp;exact HK2.out⟩
   ·have HVN:=hide hv
    go_wp2_with (first|(go_at_call 78;refine (AK.out _).mono ?_;rintro e w2 ⟨rfl,hb2⟩;have HK2:=hide (HK1.out.below hb2);clear hb2;have q1:=HK2.out.bl.cell r.p hrN;have f1:=HK2.out.bl.frozen r.p)|(refine wpList_load_mid rfl 91 _ rfl _ _ rfl (stV r) _ ?_ Tryz.underlying91 rfl (Tryz.iStV r) ?_;(exact aV.out.st8);rw[qC])|(refine wpList_load_mid rfl 88 _ rfl _ _ rfl [.bool k.hd,.string k.s,.slice (some ⟨k.lg,0,none⟩) k.s.size k.s.size] _ ?_ Tryz.underlying88 rfl Tryz.iCode ?_;(exact HK1.out.kr.gM))|(refine wpList_store_row rfl 130 _ _ rfl wr.heap.size (rcA r) rfl rfl 130 #[.int .i64 0,.bool false,.bool false,.bool false,.bool false,.bool false,.bool false,.bool false,.int .i64 0,.bool false] ?_ (Tryz.iRc _) rfl (gW _) ?_;(exact (Row.new wr #[.int .i64 0,.bool false,.bool false,.bool false,.bool false,.bool false,.bool false,.bool false,.int .i64 0,.bool false] 130).raw);rw[World.setRow_alloc_new];have HK1:=hide (HK.out.below (aD wr (.cells (rcA r) 130)));have aV:=hide (Row.new wr (rcA r) 130);generalize wr.alloc (.cells (rcA r) 130)=w1 at *;have p1:w1.cell? ⟨wr.heap.size,0,none⟩=some (.int .i64 (r.p:Int)):=aV.out.cell 0 (fq r))|(refine wpList_load_mid rfl 130 _ rfl _ _ rfl (rcV r) _ ?_ Tryz.underlying130 rfl Tryz.iReached ?_;(exact HR1.out)))
    go_round
    case measure=>simp[intOf];omega
    case rel=>exact ⟨j+1,by omega,by go_num,by rw[HUP.out];simp only[ne_eq,HVN.out,not_false_eq_true,and_true];exact HK2.out.set r.p v⟩
  ·have e:j=k.L.length:=by omega
   subst e
   rw[List.take_length] at HK
   go_wp2
   go_ret
   exact ⟨gk,rfl,Nat.le_of_lt HK.out.ge,HK.out.bl,HK.out.b⟩
end
section
open Mc
theorem Tryz.infoSl:(Tryz.prog.info? 55).map (fun i=>(i.zero,i.size,i.bytes))=some (some (.slice none 0 0),1,24):=by kernel_rfl
structure AlI (w W:World)(K:List Kn)(v:Value)(M:List Ki):Prop where
 own:W.ownsRow w.heap.size 55 1 v M.length (M.flatMap kiV)
 each:∀m∈M,Blk W m.g m.n (fun p=>.int .i64 (m.f p))/\m.n<=301/\v.ownBlock≠some m.g
 at_:∀(i:Nat) (m:Ki),M[i]?=some m->∃k,K[i]?=some k/\m.n=k.s.size+1/\m.f=kAt k.hd k.s.data.toList k.L
 b:Below w.heap.size w W
theorem AlI.below {w W W':World}{K:List Kn}{v:Value}{M:List Ki}(h:AlI w W K v M)(hb:Below W.heap.size W W'):AlI w W' K v M:=⟨fO h.own (fun j _ hl=>hb.block j hl),fun m hm=>⟨(h.each m hm).1.below hb,(h.each m hm).2⟩,h.at_,ak h.b hb⟩
theorem AlI.new (w:World)(K:List Kn):AlI w (w.alloc (.cells #[] 55)) K (.slice (some ⟨w.heap.size,0,none⟩) 0 0) []:=⟨vH w _ _ _ (Nat.le_refl _),fun m hm=>(by cases hm),fun i m hm=>(by cases hm),aD _ _⟩
theorem AlI.push {w W W':World}{K:List Kn}{v v':Value}{M:List Ki}{m:Ki}{k:Kn}{o:Obj}(h:AlI w W K v M)(hk:K[M.length]?=some k)(hm1:m.n=k.s.size+1)(hm2:m.f=kAt k.hd k.s.data.toList k.L)(UR:m.n<=301)(hbl:Blk W m.g m.n (fun p=>.int .i64 (m.f p)))(hne:v.ownBlock≠some m.g)(ho:W'.ownsRow w.heap.size 55 1 v' (M++[m]).length ((M++[m]).flatMap kiV))(hb:Below w.heap.size (W.alloc o) W')(hs:∀j,j<(W.alloc o).heap.size->v.ownBlock≠some j->W'.heap[j]?=(W.alloc o).heap[j]?)(hat:v'.ownBlock=v.ownBlock\/v'.ownBlock=some (W.alloc o).heap.size):AlI w W' K v' (M++[m]):=by
 have key:∀x:Ki,Blk W x.g x.n (fun p=>.int .i64 (x.f p))->v.ownBlock≠some x.g->Blk W' x.g x.n (fun p=>.int .i64 (x.f p))/\v'.ownBlock≠some x.g:=by
  intro x hx hn
  have hlt:=hx.lt
  refine ⟨hx.same ?_,fun e=>?_⟩
  ·rw[hs x.g (by simp;omega) hn,heap_alloc_old _ _ hlt]
  ·rcases hat with a|a
   ·rw[a] at e;exact hn e
   ·rw[a] at e;injection e with e;simp at e;omega
 refine ⟨ho,fun x hx=>?_,fun i x hx=>?_,(h.b.alloc h.b.size o).trans hb⟩
 ·rcases List.mem_append.1 hx with hx|hx
  ·obtain ⟨a1,a2,a3⟩:=h.each x hx
   exact ⟨(key x a1 a3).1,a2,(key x a1 a3).2⟩
  ·have hx':x=m:=by simpa using hx
   subst hx'
   exact ⟨(key x hbl hne).1,UR,(key x hbl hne).2⟩
 ·by_cases hl:i<M.length
  ·rw[List.getElem?_append_left hl] at hx
   exact h.at_ i x hx
  ·rw[List.getElem?_append_right (by omega)] at hx
   have e:i-M.length=0:=by
    by_cases e:i-M.length=0
    ·exact e
    ·rw[List.getElem?_eq_none (by simp;omega)] at hx;cases hx
   rw[e] at hx
   cases hx
   have:i=M.length:=by omega
   rw[this]
   exact ⟨k,hk,hm1,hm2⟩
theorem AlI.bZ {w W:World}{K:List Kn}{v:Value}{M:List Ki}(h:AlI w W K v M)(hl:M.length=K.length):Go.Proofs.YtecmfdkhcffpmaaGreat.bZ (kiP M) (kiN M) M.length 5=Go.Proofs.YtecmfdkhcffpmaaGreat.bZ (kdP (K.map kp)) (jy (K.map kp)) (K.map kp).length 5:=by
 rw[List.length_map,<-hl]
 refine xD _ _ _ _ _ _ (fun i hi=>?_) (fun k hk i hi p hp=>?_)
 ·obtain ⟨k,e1,e2,e3⟩:=h.at_ i M[i] (List.getElem?_eq_getElem hi)
  rw[F8 (List.getElem?_eq_getElem hi),e2]
  unfold jy
  rw[List.getElem?_map,e1]
  show _=(k.s.data.toList.length+1)
  rw[Wd.aI]
 ·obtain ⟨x,e1,e2,e3⟩:=h.at_ i M[i] (List.getElem?_eq_getElem hi)
  rw[F7 (List.getElem?_eq_getElem hi),e3]
  unfold kdP
  rw[List.getElem?_map,e1]
  rfl
theorem Nf (w:World)(aao:Option Addr)(ac:Nat)(K:List Kn)(hK:lZ w (.slice aao K.length ac) K) :
  Calls Tryz.prog 74 #[.slice aao K.length ac] w fun e w'=>∃ao cc,e=.returned (.slice ao (bZ (kdP (K.map kp)) (jy (K.map kp)) (K.map kp).length 5).length cc)/\bD w w' (.slice ao (bZ (kdP (K.map kp)) (jy (K.map kp)) (K.map kp).length 5).length cc) (bZ (kdP (K.map kp)) (jy (K.map kp)) (K.map kp).length 5):=by
 have HK:=hide hK
 have hl8:=hK.len
 clear hK
 have HA0:=hide (AlI.new w K)
 have HSO:Hid (∀(W:World) (v:Value) (M:List Ki),AlI w W K v M->M.length=K.length->bZ (kiP M) (kiN M) M.length 5=bZ (kdP (K.map kp)) (jy (K.map kp)) (K.map kp).length 5):=hide (fun W v M h hl=>h.bZ hl)
 generalize bZ (kdP (K.map kp)) (jy (K.map kp)) (K.map kp).length 5=RS at *
 obtain ⟨i0,hj0,hz0,hz1,hz2⟩:=info_parts Tryz.infoSl
 go_enter Tryz.func74,Tryz.ntmps74
 go_wp2
 go_loopw [3,10] (fun a d wr=>∃(i:Nat) (M:List Ki),i<=K.length/\M.length=i/\d=.int .i64 i/\AlI w wr K a M) (fun _ d _=>K.length-(intOf d).toNat)
 case atStart=>exact ⟨0,[],by omega,rfl,rfl,HA0.out⟩
 case round =>
  clear HA0
  obtain ⟨i,M,hi,hMl,rfl,ha⟩:=hrel
  subst hMl
  have HA:=hide ha
  clear ha
  obtain ⟨ao,cc,hv⟩:=bq HA.out.own
  subst hv
  by_cases hlt:M.length<K.length
  ·obtain ⟨k,hki⟩:∃k,K[M.length]?=some k:=⟨K[M.length],List.getElem?_eq_getElem hlt⟩
   have HKn:=hide (HK.out.each k (List.mem_of_getElem? hki))
   obtain ⟨g0,cap0,hv0,_,hg0,_,_,hr0⟩:=fI wh (je HK.out.own HA.out.b) hki
   cases hv0
   obtain ⟨kao,kc,hkv⟩:=bq HKn.out.own
   have HR0:Hid (wr.rangeAt g0 (M.length*5) #[.bool k.hd,.bool k.hd,.string k.s,.slice (some ⟨k.lg,0,none⟩) k.s.size k.s.size,.slice kao k.L.length kc].toList):=hide (by unfold knV at hr0;rw[hkv] at hr0;exact hr0)
   have hks:=HKn.out.short
   have AK:=hide (fun W hin=>Pf W k kao kc (k.s.size+1) rfl hkv hin)
   have hi0:(0:Int)<=(M.length:Int):=by omega
   have HKI:=hide hki
   have hsz:=HA.out.b.size
   obtain ⟨N,hN⟩:∃N,k.s.size+1=N:=⟨_,rfl⟩
   rw[hN] at AK
   have HN:=hide hN
   have hN3:N<=301:=by omega
   clear hki hr0 hkv hN
   go_wp2_with (first|(at_builtin;refine gP (f:=kiV) FI rfl _ _ 160 rfl w.heap.size 55 i0 _ 24 Tryz.underlying160 hj0 hz0 hz1 hz2 rfl (by decide) _ M ⟨gk,N,kAt k.hd k.s.data.toList k.L⟩ rfl ⟨_,0,none⟩ rfl ?_ ?_ ?_ ?_ ?_ ?_ ?_;(exact HA2.out.own.alloc _);(exact eZ _ _ _);(intro x hx;simp[kiV] at hx;subst hx;rfl);(unfold maxLen;omega);(omega);(simp;omega);intro ao' cc' w5 hown' aT bn hat';have HO5:=hide hown';have gG:=hide aT;have HS5:=hide bn;have mV:=hide hat';clear hown' aT bn hat')|(go_at_call 98;refine (AK.out _ (HKn.out.below HA1.out.b)).mono ?_;rintro e w2 ⟨gk,rfl,hgk,hbk,hb2⟩;have HA2:=hide (HA1.out.below hb2);have HBK:=hide hbk;have hz2':=hb2.size;clear hb2 hbk)|(refine wpList_load_row rfl 127 _ rfl _ rfl 127 #[.bool k.hd,.bool k.hd,.string k.s,.slice (some ⟨k.lg,0,none⟩) k.s.size k.s.size,.slice kao k.L.length kc] (0,0) _ ?_ Tryz.underlying127 rfl Tryz.iKnown ?_;(exact gH.out.raw))|(refine wpList_store_row rfl 127 _ _ rfl wr.heap.size #[.bool k.hd,.bool k.hd,.string k.s,.slice (some ⟨k.lg,0,none⟩) k.s.size k.s.size,.slice kao k.L.length kc] rfl rfl 127 #[.bool false,.bool false,.string ⟨#[]⟩,.slice none 0 0,.slice none 0 0] ?_ Tryz.iKnown rfl (by simp[Value.oneCell']) ?_;(exact (Row.new wr #[.bool false,.bool false,.string ⟨#[]⟩,.slice none 0 0,.slice none 0 0] 127).raw);rw[World.setRow_alloc_new];have HA1:=hide (HA.out.below (aD wr (.cells #[.bool k.hd,.bool k.hd,.string k.s,.slice (some ⟨k.lg,0,none⟩) k.s.size k.s.size,.slice kao k.L.length kc] 127)));have gH:=hide (Row.new wr #[.bool k.hd,.bool k.hd,.string k.s,.slice (some ⟨k.lg,0,none⟩) k.s.size k.s.size,.slice kao k.L.length kc] 127);have hz1':wr.heap.size<(wr.alloc (.cells #[.bool k.hd,.bool k.hd,.string k.s,.slice (some ⟨k.lg,0,none⟩) k.s.size k.s.size,.slice kao k.L.length kc] 127)).heap.size:=(Row.new wr #[.bool k.hd,.bool k.hd,.string k.s,.slice (some ⟨k.lg,0,none⟩) k.s.size k.s.size,.slice kao k.L.length kc] 127).lt;generalize wr.alloc (.cells #[.bool k.hd,.bool k.hd,.string k.s,.slice (some ⟨k.lg,0,none⟩) k.s.size k.s.size,.slice kao k.L.length kc] 127)=w1 at *;skip)|(refine wpList_load_mid rfl 127 _ rfl _ _ rfl #[.bool k.hd,.bool k.hd,.string k.s,.slice (some ⟨k.lg,0,none⟩) k.s.size k.s.size,.slice kao k.L.length kc].toList _ ?_ Tryz.underlying127 rfl Tryz.iKnown ?_;(exact HR0.out)))
   go_round
   case measure=>simp[intOf];omega
   case rel =>
    exact ⟨M.length+1,M++[⟨gk,N,kAt k.hd k.s.data.toList k.L⟩],by omega,by simp,by go_num,HA2.out.push HKI.out HN.out.symm rfl hN3 HBK.out (fun e=>by have h1:=(fQ HA1.out.own e).2;have h2:w1.heap.size<=gk:=hgk;exact absurd h1 (by show ¬gk<_;omega)) HO5.out gG.out HS5.out mV.out⟩
  ·have e:M.length=K.length:=by omega
   have HS:=hide (HSO.out _ _ _ HA.out e)
   have HMA:Hid (qJ wr (.slice ao M.length cc) M):=hide ⟨iH HA.out.own (Nat.zero_le _),fun m hm=>⟨(HA.out.each m hm).1,(HA.out.each m hm).2.1⟩,by omega⟩
   have AI:=hide (KY wr ao cc M HMA.out)
   rw[HS.out] at AI
   clear e
   go_wp2_with (first|(go_at_call 99;refine (AI.out).mono ?_;rintro e w9 ⟨rao,rcc,rfl,hri⟩;have HRI:=hide hri;clear hri))
   go_ret
   exact ⟨rao,rcc,rfl,iH HRI.out.own HA.out.b.size,ak HA.out.b HRI.out.b⟩
theorem Fb {w0 W W':World}{v v' s:Value}{X S:List Rp}{r:Rp}{b:Nat}{o o':Obj}(hx:bD w0 W v X)(hs:W.ownsRow b 23 3 s S.length (S.flatMap rpV))(hne:∀q,s.ownBlock=some q->v.ownBlock≠some q)(ho:W'.ownsRow w0.heap.size 23 3 v' (X++[r]).length ((X++[r]).flatMap rpV))(hb:Below w0.heap.size ((W.alloc o).alloc o') W')(hsame:∀j,j<((W.alloc o).alloc o').heap.size->v.ownBlock≠some j->W'.heap[j]?=((W.alloc o).alloc o').heap[j]?)(hat:v'.ownBlock=v.ownBlock\/v'.ownBlock=some ((W.alloc o).alloc o').heap.size) :
  bD w0 W' v' (X++[r])/\W'.ownsRow b 23 3 s S.length (S.flatMap rpV)/\(∀q,s.ownBlock=some q->v'.ownBlock≠some q):=by
 refine ⟨⟨ho,((hx.b.alloc hx.b.size o).alloc (by have:=hx.b.size;simp;omega) o').trans hb⟩,E8 hs (fun q hq=>?_),fun q hq e=>?_⟩
 ·have hlt:=(fQ hs hq).2
  rw[hsame q (by simp;omega) (hne q hq),heap_alloc_old _ _ (by simp;omega),heap_alloc_old _ _ hlt]
 ·have hlt:=(fQ hs hq).2
  rcases hat with a|a
  ·rw[a] at e;exact hne q hq e
  ·rw[a] at e;injection e with e;simp at e;omega
theorem Gn (w:World)(o:Obj)(vs:List Value)(t:TypeId):∀j u,vs[j]?=some u->((w.alloc o).alloc (.cells vs.toArray t)).cell? ((⟨w.heap.size+1,0,none⟩:Addr).add j)=some u:=by
 intro j u hu
 have h:=eZ (w.alloc o) vs t j u hu
 have e:(w.alloc o).heap.size=w.heap.size+1:=by simp
 rw[e] at h
 exact h
theorem Et {S:List Rp}{j:Nat}{r:Rp}(h:S[j]?=some r)(Y:List Rp):Y++S.take (j+1)=Y++S.take j++[r]:=by
 rw[List.take_add_one,h];simp
def zV (w:World)(r:Except (Int×Int) (List Wd.It))(e:Ending)(w':World):Prop :=
 Below w.heap.size w w'/\(match r with
  | .ok its=>∃ao cc,e=.returned (.tuple #[.slice ao (bF its).length cc,.int .i64 0])/\w'.ownsRow w.heap.size 23 3 (.slice ao (bF its).length cc) (bF its).length ((bF its).flatMap rpV)
  | .error x=>e=.returned (.tuple #[.slice none 0 0,.int .i64 x.1]))
theorem JH (s:ByteArray)(w:World)(x:Int×Int)(hs:s.size<=maxLen)(hread:Wd.aF s.data.toList=.error x) :
  Calls Tryz.prog 46 #[.string s] w fun e w'=>e=.returned (.tuple #[.slice none 0 0,.int .i64 x.1])/\Below w.heap.size w w':=by
 have hx:=Wd.jf hread
 have HXX:=hide (A9 s w x hs hread)
 clear hread
 go_enter Tryz.func46,Tryz.ntmps46
 go_wp2_with (go_at_call 73;refine HXX.out.mono ?_;rintro e w1 ⟨rfl,hb1⟩;have HB1:=hide hb1;clear hb1)
 go_ret2
 exact ⟨rfl,HB1.out⟩
theorem JI (K:List Kp3)(h:∀i,i<K.length->jy K i<=301)(h8:K.length<=8):(bZ (kdP K) (jy K) K.length 5).length<=20000/\(dP (fwK (jh K) 6) 6).length<=6/\(eF (fun c=>iN c K) 4).length<=4:=by
 have h1:=rH (kdP K) (jy K) K.length 5 h
 have h2:=qf (fwK (jh K) 6) 6
 have h3:=qg (fun c=>iN c K) 4
 have h4:5*(K.length*301)<=5*(8*301):=Nat.mul_le_mul (by omega) (Nat.mul_le_mul_right _ h8)
 omega
theorem KZ (s:ByteArray)(w:World)(its:List Wd.It)(hs:s.size<=maxLen)(hread:Wd.aF s.data.toList=.ok its) :
  Calls Tryz.prog 46 #[.string s] w fun e w'=>∃ao cc,e=.returned (.tuple #[.slice ao (bF its).length cc,.int .i64 0])/\bD w w' (.slice ao (bF its).length cc) (bF its):=by
 have HXX:=hide (Bo s w its hs hread)
 have HF:=hide (jP hread)
 clear hread
 generalize hF:bF its=F
 have HFE:=hide hF
 clear hF
 obtain ⟨i0,hj0,hz0,hz1,hz2⟩:=info_parts Tryz.infoRep
 go_enter Tryz.func46,Tryz.ntmps46
 go_wp2_with (first|(go_at_call 75;refine (A2.out _ HR1.out.b).mono ?_;rintro e w2 ⟨a2,c2,rfl,hr2⟩;have HR2:=hide (HR1.out.below hr2.b);have HS2:=hide hr2.own;clear hr2)|(go_at_call 74;refine (A1.out _ (Below.refl _ _)).mono ?_;rintro e w1 ⟨a1,c1,rfl,hr1⟩;have HR1:=hide hr1;clear hr1)|(go_at_call 73;refine (HXX.out).mono ?_;rintro e w0 ⟨kao,kc,K,rfl,hK,hof,hb0⟩;have HB0:=hide hb0;have HAE:=hide (KU (hof.kof hK).1 (hof.kof hK).2);have hkl:=hof.len;rw[<-hof.len];rw[<-hof.len] at hK;have HK:=hide hK;have HLN:=hide (JI (K.map kp) (fun i hi=>by rw[FB (hof.kof hK).1 i (by rw[<-hof.len];simpa using hi)];have:=HF.out.short i (by rw[<-hof.len];simpa using hi);omega) (by rw[List.length_map];exact hK.len));unfold zh at HAE;rw[HFE.out] at HAE;have A1:=hide (fun W hb=>Nf W kao kc K (hK.below hb));have A2:=hide (fun W hb=>OX W kao kc K (hK.below hb));have A3:=hide (fun W hb=>Pb W kao kc K (hK.below hb));clear hK hof hb0 hkl;generalize bZ (kdP (K.map kp)) (jy (K.map kp)) (K.map kp).length 5=S1 at *;generalize dP (fwK (jh (K.map kp)) 6) 6=S2 at *;generalize eF (fun c=>iN c (K.map kp)) 4=S3 at *))
 clear A1
 have Wi:S2.length<=6:=HLN.out.2.1
 have Wj:S3.length<=4:=HLN.out.2.2
 go_loopw [6,24] (fun a d wr=>∃(j:Nat) (X:List Rp),j<=S2.length/\d=.int .i64 j/\X=S1++S2.take j/\bD w0 wr a X/\wr.ownsRow w1.heap.size 23 3 (.slice a2 S2.length c2) S2.length (S2.flatMap rpV)/\(∀q,(Value.slice a2 S2.length c2).ownBlock=some q->a.ownBlock≠some q)) (fun _ d _=>S2.length-(intOf d).toNat)
 case atStart=>exact ⟨0,S1,by omega,rfl,by simp,HR2.out,HS2.out,fun q hq e=>by have h1:=(fQ HS2.out hq).1;have h2:=(fQ HR1.out.own e).2;omega⟩
 case round =>
  clear HR1 HR2 HS2
  obtain ⟨j,X,hj,rfl,hX,hrx,hso,hne⟩:=hrel
  have HRX:=hide hrx
  have HSO:=hide hso
  have HNE:=hide hne
  have HX:=hide hX
  clear hrx hso hne hX
  obtain ⟨ao,cc,hv⟩:=bq HRX.out.own
  subst hv
  have hXl:X.length<=30000:=by
   have h:=HLN.out
   have h2:=HX.out
   have h3:(S2.take j).length<=S2.length:=by simp;omega
   rw[h2,List.length_append];omega
  by_cases hjt:j<S2.length
  ·obtain ⟨r,hr⟩:∃r,S2[j]?=some r:=⟨S2[j],List.getElem?_eq_getElem hjt⟩
   obtain ⟨g2,cap2,hv2,_,hg2,_,_,hr2⟩:=fI iY HSO.out hr
   cases hv2
   have d0:wr.cell? ⟨g2,j*3,none⟩=some (.int .i64 r.1):=hr2 0 _ rfl
   have d1:wr.cell? ⟨g2,j*3+1,none⟩=some (.int .i64 r.2.1):=hr2 1 _ rfl
   have d2:wr.cell? ⟨g2,j*3+2,none⟩=some (.int .i64 r.2.2):=hr2 2 _ rfl
   have HTN:=hide (Et hr S1)
   have hjI:(0:Int)<=(j:Int):=by omega
   have hsz:=HRX.out.b.size
   clear hr2 hr
   go_wp2_with (first|(at_builtin;refine gP (f:=rpV) iY rfl _ _ 40 rfl w0.heap.size 23 i0 _ 24 Tryz.underlying40 hj0 hz0 hz1 hz2 rfl (by decide) _ X r rfl ⟨_,0,none⟩ rfl ?_ ?_ ?_ ?_ ?_ ?_ ?_;(exact (HRX.out.own.alloc _).alloc _);(first|exact eZ _ _ _|exact Gn wr _ (rpV r) 23);(intro x hx;simp[rpV] at hx;rcases hx with rfl|rfl|rfl<;>rfl);(unfold maxLen;omega);(omega);(simp;omega);intro ao' cc' w5 hown' aT bn hat';have HO5:=hide hown';have gG:=hide aT;have HS5:=hide bn;have mV:=hide hat';clear hown' aT bn hat'))
   go_round
   case measure=>simp[intOf];omega
   case rel =>
    obtain ⟨t1,t2,t3⟩:=Fb HRX.out HSO.out HNE.out HO5.out gG.out HS5.out mV.out
    exact ⟨j+1,_,by omega,by go_num,by rw[HTN.out,<-HX.out],t1,t2,t3⟩
  ·have e:j=S2.length:=by omega
   subst e
   rw[List.take_length] at HX
   obtain ⟨Y,hY⟩:∃Y,S1++S2=Y:=⟨_,rfl⟩
   rw[hY] at HX
   have hXY:=HX.out.symm
   subst hXY
   have HY:=hide hY
   clear hY HX
   go_wp2_with (first|(go_at_call 76;refine (A3.out _ HRX.out.b).mono ?_;rintro e w3 ⟨a3,c3,rfl,hr3⟩;have HR3:=hide (HRX.out.below hr3.b);have HS3:=hide hr3.own;have HN3:Hid (∀q,(Value.slice a3 S3.length c3).ownBlock=some q->(Value.slice ao Y.length cc).ownBlock≠some q):=hide (fun q hq e=>by have h1:=(fQ hr3.own hq).1;have h2:=(fQ HRX.out.own e).2;omega);clear hr3))
   generalize wr.heap.size=bz at *
   go_loopw [6,36] (fun a d wr=>∃(j:Nat) (X:List Rp),j<=S3.length/\d=.int .i64 j/\X=Y++S3.take j/\bD w0 wr a X/\wr.ownsRow bz 23 3 (.slice a3 S3.length c3) S3.length (S3.flatMap rpV)/\(∀q,(Value.slice a3 S3.length c3).ownBlock=some q->a.ownBlock≠some q)) (fun _ d _=>S3.length-(intOf d).toNat)
   case atStart=>exact ⟨0,Y,by omega,rfl,by simp,HR3.out,HS3.out,HN3.out⟩
   case round =>
    clear HR3 HS3 HN3 HNE HSO HRX
    obtain ⟨j,Z,hj,rfl,hX,hrx,hso,hne⟩:=hrel
    have HRX:=hide hrx
    have HSO:=hide hso
    have HNE:=hide hne
    have HX:=hide hX
    clear hrx hso hne hX
    obtain ⟨ao,cc,hv⟩:=bq HRX.out.own
    subst hv
    have hXl:Z.length<=40000:=by
     have h:=HLN.out
     have h2:=HX.out
     have h3:(S3.take j).length<=S3.length:=by simp;omega
     rw[h2,List.length_append];omega
    by_cases hjt:j<S3.length
    ·obtain ⟨r,hr⟩:∃r,S3[j]?=some r:=⟨S3[j],List.getElem?_eq_getElem hjt⟩
     obtain ⟨g2,cap2,hv2,_,hg2,_,_,hr2⟩:=fI iY HSO.out hr
     cases hv2
     have d0:wr.cell? ⟨g2,j*3,none⟩=some (.int .i64 r.1):=hr2 0 _ rfl
     have d1:wr.cell? ⟨g2,j*3+1,none⟩=some (.int .i64 r.2.1):=hr2 1 _ rfl
     have d2:wr.cell? ⟨g2,j*3+2,none⟩=some (.int .i64 r.2.2):=hr2 2 _ rfl
     have HTN:=hide (Et hr Y)
     have hjI:(0:Int)<=(j:Int):=by omega
     have hsz:=HRX.out.b.size
     clear hr2 hr
     go_wp2_with (first|(at_builtin;refine gP (f:=rpV) iY rfl _ _ 40 rfl w0.heap.size 23 i0 _ 24 Tryz.underlying40 hj0 hz0 hz1 hz2 rfl (by decide) _ Z r rfl ⟨_,0,none⟩ rfl ?_ ?_ ?_ ?_ ?_ ?_ ?_;(exact (HRX.out.own.alloc _).alloc _);(first|exact eZ _ _ _|exact Gn wr _ (rpV r) 23);(intro x hx;simp[rpV] at hx;rcases hx with rfl|rfl|rfl<;>rfl);(unfold maxLen;omega);(omega);(simp;omega);intro ao' cc' w5 hown' aT bn hat';have HO5:=hide hown';have gG:=hide aT;have HS5:=hide bn;have mV:=hide hat';clear hown' aT bn hat'))
     go_round
     case measure=>simp[intOf];omega
     case rel =>
      obtain ⟨t1,t2,t3⟩:=Fb HRX.out HSO.out HNE.out HO5.out gG.out HS5.out mV.out
      exact ⟨j+1,_,by omega,by go_num,by rw[HTN.out,<-HX.out],t1,t2,t3⟩
    ·have e:j=S3.length:=by omega
     subst e
     rw[List.take_length,<-HY.out,HAE.out] at HX
     have hZF:=HX.out
     subst hZF
     clear HX
     go_wp2
     go_ret2
     exact ⟨ao,cc,rfl,iH HRX.out.own HB0.out.size,ak HB0.out HRX.out.b⟩
theorem JJ (s:ByteArray)(w:World)(hs:s.size<=maxLen):Calls Tryz.prog 46 #[.string s] w (zV w (Wd.aF s.data.toList)):=by
 cases hr:Wd.aF s.data.toList with
 | ok its =>
  refine (KZ s w its hs hr).mono ?_
  rintro e w' ⟨ao,cc,rfl,h⟩
  exact ⟨h.b,ao,cc,rfl,h.own⟩
 | error x =>
  refine (JH s w x hs hr).mono ?_
  rintro e w' ⟨rfl,hb⟩
  exact ⟨hb,rfl⟩
end
end Go.Proofs.YtecmfdkhcffpmaaGreat
