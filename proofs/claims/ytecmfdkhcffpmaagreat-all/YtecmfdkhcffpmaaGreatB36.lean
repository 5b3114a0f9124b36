/- FlatK, DocD, DocE. -/
import Derived.Test.YtecmfdkhcffpmaaGreatB35
import Derived.Test.YtecmfdkhcffpmaaGreatB34
import Derived.Deep.LoopGhost
import Derived.OwnWalk
import Derived.Test.YtecmfdkhcffpmaaGreatB14
import Derived.Test.YtecmfdkhcffpmaaGreatB11
namespace Go.Proofs.YtecmfdkhcffpmaaGreat
open Go.RowKit
set_option linter.unusedVariables false
set_option linter.unusedSimpArgs false
set_option linter.unusedSectionVars false
set_option maxHeartbeats 8000000
set_option maxRecDepth 100000
section
open Mc
section
variable {α:Type}{f:α->List Value}{n:Nat}
theorem vv (hf:∀a,(f a).length=n)(L:List α):(L.flatMap f).length=L.length*n:=by
 induction L with
 | nil=>simp
 | cons a r ih=>rw[List.flatMap_cons,List.length_append,hf,ih,List.length_cons,Nat.succ_mul];omega
theorem OD (L:List α)(r:α):(L++[r]).flatMap f=L.flatMap f++f r:=by simp
theorem Fx (hf:∀a,(f a).length=n)(L:List α)(i j:Nat)(r:α)(h:L[i]?=some r)(hj:j<n):(L.flatMap f)[i*n+j]?=(f r)[j]?:=by
 induction L generalizing i with
 | nil=>simp at h
 | cons a l ih =>
  rw[List.flatMap_cons]
  cases i with
  | zero =>
   simp at h;subst h
   rw[List.getElem?_append_left (by rw[hf];omega),Nat.zero_mul,Nat.zero_add]
  | succ i =>
   rw[List.getElem?_append_right (by rw[hf,Nat.succ_mul];omega),hf,show (i+1)*n+j-n=i*n+j by rw[Nat.succ_mul];omega]
   exact ih i (by simpa using h)
theorem fI {w:World}{base:Nat}{t:TypeId}{v:Value}{L:List α}(hf:∀a,(f a).length=n)(h:w.ownsRow base t n v L.length (L.flatMap f)){i:Nat}{r:α}(hr:L[i]?=some r):∃g cap,v=.slice (some ⟨g,0,none⟩) L.length cap/\base<=g/\g<w.heap.size/\L.length<=cap/\cap<=maxLen/\w.rangeAt g (i*n) (f r):=by
 have hi:=(List.getElem?_eq_some_iff.1 hr).1
 rcases h.2 with ⟨rfl,h0⟩ | ⟨g,cap,cur,rfl,hb,hg,h1,h2,h3,h4⟩
 ·omega
 ·refine ⟨g,cap,rfl,hb,bB hg,h1,h2,fun j u hj=>?_⟩
  have hjn:j<n:=by have:=(List.getElem?_eq_some_iff.1 hj).1;rw[hf] at this;exact this
  refine aj hg ?_
  have:=Fx hf L i j r hr hjn
  have hle:i*n+n<=L.length*n:=by
   have:=Nat.mul_le_mul_right n (show i+1<=L.length by omega)
   rw[Nat.succ_mul] at this;exact this
  rw[<-h4,List.getElem?_take,if_pos (by omega),Array.getElem?_toList,hj] at this
  exact this
theorem gP {ops:Array Oper}{rest:List Oper}{o:Oper}{a:Act}{w:World}{Q:Exit->Act->World->Prop}(hf:∀a,(f a).length=n)(hgd:o.guard=none)(s x:Operand)(t:TypeId)
  (ho:o.op=.call {callee:=.builtin .append,args:=#[s,x],argTypes:=#[t,t]})
  (base:Nat) (e:TypeId) (i:TypeInfo) (z:Value) (bytes:Nat) (ht:Tryz.prog.underlying t=some (.slice e)) (hi:Tryz.prog.info? e=some i) (hz:i.zero=some z)
  (hsize:i.size=n) (hby:i.bytes=bytes) (hzs:z.cells.size=n) (hsz:0<n)
  (v:Value) (L:List α) (r:α) (hs:a.eval s=v)
  (ad:Addr) (hx:a.eval x=.slice (some ad) 1 1) (hown:w.ownsRow base e n v L.length (L.flatMap f)) (hnews:∀j u,(f r)[j]?=some u->w.cell? (ad.add j)=some u) (h1:∀u∈f r,u.oneCell'=true)
  (h63:L.length+1<=maxLen) (hbytes:(L.length+1)*bytes<=140737488355328) (hbase:base<=w.heap.size)
  (h:∀ao' cc' w',w'.ownsRow base e n (.slice ao' (L.length+1) cc') (L++[r]).length ((L++[r]).flatMap f)->Below base w w'->(∀j,j<w.heap.size->v.ownBlock≠some j->w'.heap[j]?=w.heap[j]?)->((Value.slice ao' (L.length+1) cc').ownBlock=v.ownBlock\/(Value.slice ao' (L.length+1) cc').ownBlock=some w.heap.size)->wpList Tryz.prog ops Q rest (a.put o.dst (.slice ao' (L.length+1) cc')) w') :
  wpList Tryz.prog ops Q (o::rest) a w:=by
 refine wpList_append_own_at w hgd s x t ho base e i z n bytes ht hi hz hsize hby hzs hsz v L.length (L.flatMap f) hs hown ad 1 1 (f r) hx (by rw[hf];omega) hnews h1 h63 hbytes hbase ?_
 intro v' w' hown' hg hnil hat
 obtain ⟨ao',cc',hv'⟩:=bq hown'
 subst hv'
 refine h ao' cc' w' ?_ ?_ ?_ hat
 ·rw[OD,List.length_append];exact hown'
 ·refine (Below.refl base w).grown hg hbase (fun q hq=>?_)
  rcases hown.2 with ⟨e1,_⟩ | ⟨g,cap,cur,e1,hb,_⟩
  ·rw[e1] at hq;cases hq
  ·rw[e1] at hq;injection hq with hq;rw[<-hq];exact hb
 ·exact fun j hj hne=>hg.block j hj (fun e=>hne e.symm)
end
structure Kn where
 hd:Bool
 s:ByteArray
 lg:Nat
 v:Value
 L:List Rc
def knV (k:Kn):List Value:=[.bool k.hd,.bool k.hd,.string k.s,.slice (some ⟨k.lg,0,none⟩) k.s.size k.s.size,k.v]
theorem wh (k:Kn):(knV k).length=5:=rfl
structure kS (w:World)(k:Kn):Prop where
 own:w.ownsRow 0 130 10 k.v k.L.length (iA k.L)
 fin:iP k.hd k.s.data.toList k.L
 gb:GB k.s.data.toList
 short:k.s.size<=300
theorem je {w w':World}{t:TypeId}{n m:Nat}{v:Value}{xs:List Value}(h:w.ownsRow 0 t n v m xs)(hb:Below w.heap.size w w'):w'.ownsRow 0 t n v m xs :=
 fO h (fun g _ hl=>hb.block g hl)
theorem kS.below {w w':World}{k:Kn}(h:kS w k)(hb:Below w.heap.size w w'):kS w' k:=⟨je h.own hb,h.fin,h.gb,h.short⟩
structure lZ (w:World)(v:Value)(K:List Kn):Prop where
 own:w.ownsRow 0 127 5 v K.length (K.flatMap knV)
 each:∀k∈K,kS w k
 len:K.length<=8
theorem lZ.below {w w':World}{v:Value}{K:List Kn}(h:lZ w v K)(hb:Below w.heap.size w w'):lZ w' v K:=⟨je h.own hb,fun k hk=>(h.each k hk).below hb,h.len⟩
theorem iP.all {hd:Bool}{b:List UInt8}{L:List Rc}(h:iP hd b L)(s:St3):Rch hd b s↔∃r∈L,r.st=s:=by
 obtain ⟨i,f,h1,h2⟩:=h
 exact h1.all h2 s
theorem iP.ok {hd:Bool}{b:List UInt8}{L:List Rc}(h:iP hd b L)(hg:GB b){r:Rc}(hr:r∈L):SOK b r.st:=by
 obtain ⟨i,f,h1,h2⟩:=h
 exact h1.ok hg hr
theorem iP.len {hd:Bool}{b:List UInt8}{L:List Rc}(h:iP hd b L)(hg:GB b):L.length<=(b.length+1)*128:=by
 obtain ⟨i,f,h1,h2⟩:=h
 exact h1.len hg
end
section
open Mc
theorem Tryz.infoBs:(Tryz.prog.info? 102).map (fun i=>(i.zero,i.size,i.bytes))=some (some (.slice none 0 0),1,24):=by kernel_rfl
def gV (g:Nat):List Value:=[.slice (some ⟨g,0,none⟩) 128 128]
theorem FX (g:Nat):(gV g).length=1:=rfl
theorem E5 {w:World}{base:Nat}{t:TypeId}{n m:Nat}{v:Value}{xs:List Value}(h:w.ownsRow base t n v m xs){j:Nat}(hj:v.ownBlock=some j):base<=j/\j<w.heap.size:=by
 rcases h.2 with ⟨rfl,_⟩ | ⟨g,cap,cur,rfl,hb,hg,_⟩
 ·cases hj
 ·injection hj with hj
  subst hj
  exact ⟨hb,bB hg⟩
theorem Tw (w:World)(o:Obj)(vs:List Value)(t:TypeId):∀j u,vs[j]?=some u->((w.alloc o).alloc (.cells vs.toArray t)).cell? ((⟨w.heap.size+1,0,none⟩:Addr).add j)=some u:=by
 intro j u hu
 have h:=eZ (w.alloc o) vs t j u hu
 have e:(w.alloc o).heap.size=w.heap.size+1:=by simp
 rw[e] at h
 exact h
structure TbI (w W:World)(hd:Bool)(b:List UInt8)(v:Value)(G:List Nat):Prop where
 own:W.ownsRow (w.heap.size+1) 102 1 v G.length (G.flatMap gV)
 it:Row W w.heap.size #[.bool hd,.string (Wd.mkS b)] 37
 each:∀g∈G,Blk W g 128 (fun _=>.bool false)/\w.heap.size<g/\v.ownBlock≠some g
 nd:G.Nodup
 b:Below w.heap.size w W
theorem TbI.push {w W W':World}{hd:Bool}{b:List UInt8}{v v':Value}{G:List Nat}{o:Obj}(h:TbI w W hd b v G)(hbk:Blk (W.alloc o) W.heap.size 128 (fun _=>.bool false))(o2:Obj)(ho:W'.ownsRow (w.heap.size+1) 102 1 v' (G++[W.heap.size]).length ((G++[W.heap.size]).flatMap gV))(hb:Below (w.heap.size+1) ((W.alloc o).alloc o2) W')(hs:∀j,j<((W.alloc o).alloc o2).heap.size->v.ownBlock≠some j->W'.heap[j]?=((W.alloc o).alloc o2).heap[j]?)(hat:v'.ownBlock=v.ownBlock\/v'.ownBlock=some ((W.alloc o).alloc o2).heap.size):TbI w W' hd b v' (G++[W.heap.size]):=by
 have hlt:=h.it.lt
 have key:∀g,Blk (W.alloc o) g 128 (fun _=>.bool false)->v.ownBlock≠some g->Blk W' g 128 (fun _=>.bool false)/\v'.ownBlock≠some g:=by
  intro g hg hn
  have hl:=hg.lt
  refine ⟨hg.same ?_,fun e=>?_⟩
  ·rw[hs g (by simp at hl ⊢;omega) hn,heap_alloc_old _ _ hl]
  ·rcases hat with a|a
   ·rw[a] at e;exact hn e
   ·rw[a] at e;injection e with e;simp at hl e;omega
 have hn:v.ownBlock≠some W.heap.size:=fun e=>by have:=(E5 h.own e).2;omega
 refine ⟨ho,?_,fun g hg=>?_,?_,?_⟩
 ·refine h.it.same ?_
  rw[hb.block _ (by omega),heap_alloc_old _ _ (by simp;omega),heap_alloc_old _ _ hlt]
 ·rcases List.mem_append.1 hg with hg|hg
  ·obtain ⟨a1,a2,a3⟩:=h.each g hg
   exact ⟨(key g (a1.alloc o) a3).1,a2,(key g (a1.alloc o) a3).2⟩
  ·have:g=W.heap.size:=by simpa using hg
   subst this
   exact ⟨(key _ hbk hn).1,hlt,(key _ hbk hn).2⟩
 ·rw[List.nodup_append]
  refine ⟨h.nd,by simp,fun a ha c hc=>?_⟩
  have:c=W.heap.size:=by simpa using hc
  have:=(h.each a ha).1.lt
  omega
 ·exact ((h.b.alloc (by omega) o).alloc (by simp;omega) o2).trans (hb.mono (by omega))
theorem TbI.dt {w W:World}{hd:Bool}{b:List UInt8}{v:Value}{G:List Nat}(h:TbI w W hd b v G)(hl:G.length=b.length+1):∃go cap gs,v=.slice (some ⟨go,0,none⟩) (b.length+1) cap/\w.heap.size<go/\DT W go gs b.length (fun _ _=>false)/\(∀p,p<=b.length->w.heap.size<gs p):=by
 have hget:∀p (hp:p<=b.length),G.getD p 0=G[p]'(by omega):=fun p hp=>by rw[List.getD_eq_getElem?_getD,List.getElem?_eq_getElem (by omega)];rfl
 rcases h.own.2 with ⟨_,h0⟩ | ⟨go,cap,cur,hv,hb,hg,h1,h2,h3,h4⟩
 ·omega
 ·refine ⟨go,cap,fun p=>G.getD p 0,by rw[hv,hl],by omega,⟨⟨cur,_,hg,fun p hp=>?_⟩,fun p hp=>?_,fun p q hp hq e=>?_,fun p hp e=>?_⟩,fun p hp=>?_⟩
  ·have hp':p<G.length:=by omega
   have:=Fx FX G p 0 G[p] (List.getElem?_eq_getElem hp') (by omega)
   rw[<-h4,List.getElem?_take,if_pos (by omega),Array.getElem?_toList] at this
   simp only[Nat.mul_one,Nat.add_zero] at this
   have h5:cur[p]?=some (.slice (some ⟨G[p],0,none⟩) 128 128):=this
   show cur[p]?=some (.slice (some ⟨G.getD p 0,0,none⟩) 128 128)
   rw[h5,hget p (by omega)]
  ·show Blk W (G.getD p 0) 128 _
   rw[hget p hp];exact (h.each _ (List.getElem_mem _)).1
  ·have e:G.getD p 0=G.getD q 0:=e
   rw[hget p hp,hget q hq] at e
   exact (List.getElem_inj h.nd).1 e
  ·have e:G.getD p 0=go:=e
   rw[hget p hp] at e
   exact (h.each (G[p]'(by omega)) (List.getElem_mem _)).2.2 (by rw[hv,<-e];rfl)
  ·show w.heap.size<G.getD p 0
   rw[hget p hp];exact (h.each _ (List.getElem_mem _)).2.1
noncomputable def di (hd:Bool)(b:List UInt8):DTb:=open Classical in fun a c=>decide (InD hd b a c)
theorem lM (hd:Bool)(b:List UInt8)(a c:Nat):di hd b a c=true↔InD hd b a c:=by unfold di;simp
theorem Fy {hd:Bool}{b:List UInt8}{F:DTb}(h:∀a c,F a c=true↔InD hd b a c):F=di hd b:=by
 funext a c
 have h1:=h a c
 have h2:=lM hd b a c
 cases hf:F a c<;>cases hi:di hd b a c
 ·rfl
 ·exact absurd (h1.2 (h2.1 hi)) (by rw[hf];decide)
 ·exact absurd (h2.2 (h1.1 hf)) (by rw[hi];decide)
 ·rfl
def StI (w wr:World)(hd:Bool)(b:List UInt8)(go:Nat)(gs:Nat->Nat)(again:Bool)(k:Nat):Prop :=
 ∃F,DT wr go gs b.length F/\(∀a c,F a c=true->InD hd b a c)/\F 0 (dn 0 hd)=true/\Row wr w.heap.size #[.bool hd,.string (Wd.mkS b)] 37/\Below w.heap.size w wr/\(again=true->cntF b.length F+1<=k)/\(again=false->F=di hd b)
def Tx (w:World)(hd:Bool)(b:List UInt8)(e:Ending)(w':World):Prop:=∃go cap gs,e=.returned (.slice (some ⟨go,0,none⟩) (b.length+1) cap)/\w.heap.size<=go/\(∀p,p<=b.length->w.heap.size<=gs p)/\DT w' go gs b.length (di hd b)/\Below w.heap.size w w'
theorem MJ (hd:Bool)(b:List UInt8)(w:World)(hg:GB b) :
  Calls Tryz.prog 65 #[.agg #[.bool hd,.string (Wd.mkS b)]] w (Tx w hd b):=by
 have HG:=hide hg
 have hlen:b.length<=300:=hg.short
 have hbs:(Wd.mkS b).size=b.length:=Wd.bN b
 have HT0:Hid (TbI w (w.alloc (.cells #[.bool hd,.string (Wd.mkS b)] 37)) hd b (.slice none 0 0) []):=hide ⟨World.ownsRow_nil _ _ _ _,Row.new _ _ _,fun g hg=>(by cases hg),List.nodup_nil,aD _ _⟩
 have hmk:∀W:World,(Instr.makeSlice 102 (.int .i64 128) (.int .i64 128)).run Tryz.prog W=.ok (.slice (some ⟨W.heap.size,0,none⟩) 128 128) (W.alloc (.cells (madeCells #[.bool false] 128) 4)):=fun W=>ze W 128 (by omega)
 obtain ⟨i0,hj0,hz0,hz1,hz2⟩:=info_parts Tryz.infoBs
 clear hg
 go_enter Tryz.func65,Tryz.ntmps65
 go_wp2
 generalize w.alloc (.cells #[.bool hd,.string (Wd.mkS b)] 37)=W0 at *
 go_loopw [3,4] (fun a c wr=>∃(p:Nat) (G:List Nat),p<=b.length+1/\G.length=p/\c=.int .i64 p/\TbI w wr hd b a G) (fun _ c _=>b.length+1-(intOf c).toNat)
 case atStart=>exact ⟨0,[],by omega,rfl,rfl,HT0.out⟩
 case round =>
  clear HT0
  obtain ⟨p,G,hp,hGl,rfl,ht⟩:=hrel
  subst hGl
  have HT:=hide ht
  clear ht
  obtain ⟨ao,cc,hv⟩:=bq HT.out.own
  subst hv
  have y1:wr.cell? ⟨w.heap.size,1,none⟩=some (.string (Wd.mkS b)):=HT.out.it.cell 1 rfl
  have hsz:=HT.out.it.lt
  by_cases hpt:G.length<=b.length
  ·go_wp2_with (first|(at_builtin;refine gP (f:=gV) FX rfl _ _ 112 rfl (w.heap.size+1) 102 i0 _ 24 Tryz.underlying112 hj0 hz0 hz1 hz2 rfl (by decide) _ G wr.heap.size rfl ⟨_,0,none⟩ rfl ?_ ?_ ?_ ?_ ?_ ?_ ?_;(exact (HT.out.own.alloc _).alloc _);(first|exact eZ _ _ _|exact Tw wr _ (gV wr.heap.size) 102);(intro x hx;simp[gV] at hx;subst hx;rfl);(unfold maxLen;omega);(omega);(simp;omega);intro ao' cc' w5 hown' aT bn hat';have HO5:=hide hown';have gG:=hide aT;have HS5:=hide bn;have mV:=hide hat';clear hown' aT bn hat'))
   go_round
   case measure=>simp[intOf];omega
   case rel=>exact ⟨G.length+1,G++[wr.heap.size],by omega,by simp,by go_num,HT.out.push (zf wr 128) _ HO5.out gG.out HS5.out mV.out⟩
  ·have e:G.length=b.length+1:=by omega
   obtain ⟨go,cap,gs,hv,hgo,hdt,hgs⟩:=HT.out.dt e
   have HDT:=hide hdt
   have HIT:=hide HT.out.it
   have HBB:=hide HT.out.b
   have HGO:=hide (show w.heap.size<go from hgo)
   have HGS:=hide hgs
   have hge:¬((G.length:Int)<=(b.length:Int)):=by omega
   rw[hv]
   clear hv hdt hgs e hpt hp HT hsz y1 hmk
   generalize G.length=Gl at *
   have hz0':wr.cell? ⟨go,0,none⟩=some (.slice (some ⟨gs 0,0,none⟩) 128 128):=HDT.out.out.cell 0 (by omega)
   have hy0:wr.cell? ⟨w.heap.size,0,none⟩=some (.bool hd):=HIT.out.cell 0 rfl
   have hy1:wr.cell? ⟨w.heap.size,1,none⟩=some (.string (Wd.mkS b)):=HIT.out.cell 1 rfl
   have HC0:Hid (∀t,t<128->wr.cell? ⟨gs 0,t,none⟩=some (.bool false)/\wr.frozen? ⟨gs 0,t,none⟩=false):=hide (fun t ht=>⟨(HDT.out.inn 0 (by omega)).cell t ht,(HDT.out.inn 0 (by omega)).frozen t⟩)
   have HST:Hid (StI w (wr.setCell ⟨gs 0,dn 0 hd,none⟩ (.bool true)) hd b go gs true (cntF b.length (jd (fun _ _=>false) 0 (dn 0 hd))+1)):=by
    refine hide ⟨_,HDT.out.set 0 (dn 0 hd) (by omega),fun a c hac=>?_,by simp[jd],HIT.out.aA (by have:=HGS.out 0 (by omega);omega) _ _,HBB.out.setCell (show w.heap.size<=gs 0 by have:=HGS.out 0 (by omega);omega) _,fun _=>Nat.le_refl _,fun h=>by cases h⟩
    unfold jd at hac
    by_cases e:a=0/\c=dn 0 hd
    ·rw[e.1,e.2]
     exact ⟨mO _ (by omega),by rw[nA];exact Rch.begin⟩
    ·rw[if_neg e] at hac;cases hac
   generalize cntF b.length (jd (fun _ _=>false) 0 (dn 0 hd))+1=n0 at *
   have hdn:dn 0 hd=cond hd 1 0:=by cases hd<;>rfl
   rw[hdn] at HST
   have hcd:cond hd 1 0<128:=by cases hd<;>decide
   obtain ⟨c0,f0⟩:=HC0.out _ hcd
   clear HC0 hcd hdn
   cases hd
   ·have c0':wr.cell? ⟨gs 0,0,none⟩=some (.bool false):=c0
    have f0':wr.frozen? ⟨gs 0,0,none⟩=false:=f0
    clear c0 f0
    go_wp2
    go_loopg [6] n0 (fun k a wr=>∃again:Bool,a=.bool again/\StI w wr false b go gs again k)
    case atStart=>exact ⟨true,rfl,HST.out⟩
    case round =>
     clear HST c0' f0' hz0' hy0 hy1 HIT HDT HBB
     obtain ⟨again,rfl,F,hdt,hsub,sV,hit,hbel,hcnt,hfin⟩:=hrel
     have HDT:=hide hdt
     have HIT:=hide hit
     have HBB:=hide hbel
     have HFI:=hide hfin
     have HCN:=hide hcnt
     have HBG:=hide sV
     have HSU:=hide hsub
     clear hdt hit hbel hfin hcnt sV hsub
     cases again
     ·go_wp2
      go_ret
      exact ⟨go,cap,gs,rfl,Nat.le_of_lt HGO.out,fun p hp=>Nat.le_of_lt (HGS.out p hp),by rw[<-HFI.out (by first|rfl|trivial)];exact HDT.out,HBB.out⟩
     ·have hy0:wr.cell? ⟨w.heap.size,0,none⟩=some (.bool false):=HIT.out.cell 0 rfl
      have hy1:wr.cell? ⟨w.heap.size,1,none⟩=some (.string (Wd.mkS b)):=HIT.out.cell 1 rfl
      have AS:=hide (En false b wr go cap gs F HG.out HDT.out HSU.out)
      have hcl:=HCN.out rfl
      clear HFI HCN
      go_wp2_with (go_at_call 96;refine AS.out.mono ?_;rintro e w1 ⟨F',any,rfl,sW,sZ,tq⟩;have HD1:=hide sW;have HS1:=hide sZ;have HK1:=hide tq;clear sW sZ tq)
      have hrow:Row w1 w.heap.size #[.bool false,.string (Wd.mkS b)] 37:=HIT.out.same ((HK1.out (w.heap.size+1) (fun p hp=>HGS.out p hp) (by have:=HIT.out.lt;omega)).block _ (by omega))
      have hbl:Below w.heap.size w w1:=HBB.out.trans (HK1.out w.heap.size (fun p hp=>Nat.le_of_lt (HGS.out p hp)) HBB.out.size)
      cases any
      ·go_roundg 0
       case measure=>omega
       case rel=>exact ⟨false,rfl,F',HD1.out,HS1.out.sub,HS1.out.mono _ _ HBG.out,hrow,hbl,fun h=>(by cases h),fun _=>Fy (HS1.out.whole HG.out HBG.out)⟩
      ·go_roundg (cntF b.length F'+1)
       case measure=>have:=HS1.out.less HG.out;omega
       case rel=>exact ⟨true,rfl,F',HD1.out,HS1.out.sub,HS1.out.mono _ _ HBG.out,hrow,hbl,fun _=>Nat.le_refl _,fun h=>(by cases h)⟩
   ·have c0':wr.cell? ⟨gs 0,1,none⟩=some (.bool false):=c0
    have f0':wr.frozen? ⟨gs 0,1,none⟩=false:=f0
    clear c0 f0
    go_wp2
    go_loopg [6] n0 (fun k a wr=>∃again:Bool,a=.bool again/\StI w wr true b go gs again k)
    case atStart=>exact ⟨true,rfl,HST.out⟩
    case round =>
     clear HST c0' f0' hz0' hy0 hy1 HIT HDT HBB
     obtain ⟨again,rfl,F,hdt,hsub,sV,hit,hbel,hcnt,hfin⟩:=hrel
     have HDT:=hide hdt
     have HIT:=hide hit
     have HBB:=hide hbel
     have HFI:=hide hfin
     have HCN:=hide hcnt
     have HBG:=hide sV
     have HSU:=hide hsub
     clear hdt hit hbel hfin hcnt sV hsub
     cases again
     ·go_wp2
      go_ret
      exact ⟨go,cap,gs,rfl,Nat.le_of_lt HGO.out,fun p hp=>Nat.le_of_lt (HGS.out p hp),by rw[<-HFI.out (by first|rfl|trivial)];exact HDT.out,HBB.out⟩
     ·have hy0:wr.cell? ⟨w.heap.size,0,none⟩=some (.bool true):=HIT.out.cell 0 rfl
      have hy1:wr.cell? ⟨w.heap.size,1,none⟩=some (.string (Wd.mkS b)):=HIT.out.cell 1 rfl
      have AS:=hide (En true b wr go cap gs F HG.out HDT.out HSU.out)
      have hcl:=HCN.out rfl
      clear HFI HCN
      go_wp2_with (go_at_call 96;refine AS.out.mono ?_;rintro e w1 ⟨F',any,rfl,sW,sZ,tq⟩;have HD1:=hide sW;have HS1:=hide sZ;have HK1:=hide tq;clear sW sZ tq)
      have hrow:Row w1 w.heap.size #[.bool true,.string (Wd.mkS b)] 37:=HIT.out.same ((HK1.out (w.heap.size+1) (fun p hp=>HGS.out p hp) (by have:=HIT.out.lt;omega)).block _ (by omega))
      have hbl:Below w.heap.size w w1:=HBB.out.trans (HK1.out w.heap.size (fun p hp=>Nat.le_of_lt (HGS.out p hp)) HBB.out.size)
      cases any
      ·go_roundg 0
       case measure=>omega
       case rel=>exact ⟨false,rfl,F',HD1.out,HS1.out.sub,HS1.out.mono _ _ HBG.out,hrow,hbl,fun h=>(by cases h),fun _=>Fy (HS1.out.whole HG.out HBG.out)⟩
      ·go_roundg (cntF b.length F'+1)
       case measure=>have:=HS1.out.less HG.out;omega
       case rel=>exact ⟨true,rfl,F',HD1.out,HS1.out.sub,HS1.out.mono _ _ HBG.out,hrow,hbl,fun _=>Nat.le_refl _,fun h=>(by cases h)⟩
end
section
open Mc
def Ty (w:World)(r:Except (Int×Int) (List Wd.It))(e:Ending)(w':World):Prop :=
 Below w.heap.size w w'/\(match r with
  | .ok its=>∃ao cc,e=.returned (.tuple #[.slice ao its.length cc,.int .i64 0])/\w'.ownsRow w.heap.size 37 2 (.slice ao its.length cc) its.length (Wd.dV its)
  | .error x=>e=.returned (.tuple #[.slice none 0 0,.int .i64 x.1]))
theorem uK (s:ByteArray)(w:World)(hs:s.size<=maxLen):Calls Tryz.prog 13 #[.string s] w (Ty w (Wd.aF s.data.toList)):=by
 cases hr:Wd.aF s.data.toList with
 | ok its =>
  obtain ⟨g1,g2,g3,g4⟩:=Wd.yc hr
  have hok:(Wd.bX s.data.toList).1=0:=by rw[<-Wd.pY,Wd.jQ,hr]
  have UF:s.size<=240:=by rw[<-Wd.aI];exact g1
  refine (xC s w UF hok g4).mono ?_
  rintro e w' ⟨v,rfl,hown,hb⟩
  rw[<-g2] at hown
  obtain ⟨ao,cc,rfl⟩:=bq hown
  exact ⟨hb,ao,cc,rfl,hown⟩
 | error x =>
  have hc:(Wd.bX s.data.toList).1=x.1:=by rw[<-Wd.pY,Wd.jQ,hr]
  have hx:=Wd.jf hr
  have h:=BR s w hs (by rw[hc];exact hx)
  rw[hc] at h
  refine h.mono ?_
  rintro e w' ⟨rfl,hb⟩
  exact ⟨hb,rfl⟩
structure Dk where
 go:Nat
 n1:Nat
 cap:Nat
 gs:Nat->Nat
def dkV (d:Dk):List Value:=[.slice (some ⟨d.go,0,none⟩) d.n1 d.cap]
theorem zx (d:Dk):(dkV d).length=1:=rfl
structure nR (w:World)(hd:Bool)(b:List UInt8)(d:Dk):Prop where
 dt:DT w d.go d.gs b.length (di hd b)
 n1:d.n1=b.length+1
theorem nR.below {w w':World}{hd:Bool}{b:List UInt8}{d:Dk}(h:nR w hd b d)(hb:Below w.heap.size w w'):nR w' hd b d:=⟨h.dt.below hb,h.n1⟩
structure jV (w:World)(its:List Wd.It)(iv dv:Value)(D:List Dk):Prop where
 items:w.ownsRow 0 37 2 iv its.length (its.flatMap Wd.itV)
 own:w.ownsRow 0 112 1 dv D.length (D.flatMap dkV)
 each:∀i d,D[i]?=some d->nR w (isH its i) (ah its i) d
 len:D.length=its.length
 fine:bH its
theorem jV.below {w w':World}{its:List Wd.It}{iv dv:Value}{D:List Dk}(h:jV w its iv dv D)(hb:Below w.heap.size w w'):jV w' its iv dv D:=⟨je h.items hb,je h.own hb,fun i d hd=>(h.each i d hd).below hb,h.len,h.fine⟩
structure DkI (w W:World)(its:List Wd.It)(v:Value)(D:List Dk):Prop where
 own:W.ownsRow w.heap.size 112 1 v D.length (D.flatMap dkV)
 each:∀i d,D[i]?=some d->nR W (isH its i) (ah its i) d/\v.ownBlock≠some d.go/\∀p,p<=(ah its i).length->v.ownBlock≠some (d.gs p)
 b:Below w.heap.size w W
theorem DkI.push {w W W1 W':World}{its:List Wd.It}{v v':Value}{D:List Dk}{d:Dk}{o:Obj}(h:DkI w W its v D)(hb1:Below W.heap.size W W1)(hin:nR W1 (isH its D.length) (ah its D.length) d)(h1:W.heap.size<=d.go)(h2:∀p,p<=(ah its D.length).length->W.heap.size<=d.gs p)(ho:W'.ownsRow w.heap.size 112 1 v' (D++[d]).length ((D++[d]).flatMap dkV))(hb:Below w.heap.size (W1.alloc o) W')(hs:∀j,j<(W1.alloc o).heap.size->v.ownBlock≠some j->W'.heap[j]?=(W1.alloc o).heap[j]?)(hat:v'.ownBlock=v.ownBlock\/v'.ownBlock=some (W1.alloc o).heap.size):DkI w W' its v' (D++[d]):=by
 have hz:=h.b.size
 have hz1:=hb1.size
 have key:∀(hd:Bool) (b:List UInt8) (x:Dk),nR W1 hd b x->v.ownBlock≠some x.go->(∀p,p<=b.length->v.ownBlock≠some (x.gs p))->nR W' hd b x/\v'.ownBlock≠some x.go/\∀p,p<=b.length->v'.ownBlock≠some (x.gs p):=by
  intro hd b x hx n1 n2
  have hl:=hx.dt.out.lt
  have hl2:=fun p hp=>(hx.dt.inn p hp).lt
  have hsame:∀j,j<W1.heap.size->v.ownBlock≠some j->W'.heap[j]?=W1.heap[j]?:=fun j hj hn=>by rw[hs j (by simp;omega) hn,heap_alloc_old _ _ hj]
  have hnew:∀j,j<W1.heap.size->v.ownBlock≠some j->v'.ownBlock≠some j:=fun j hj hn e=>by
   rcases hat with a|a
   ·rw[a] at e;exact hn e
   ·rw[a] at e;injection e with e;simp at e;omega
  exact ⟨⟨⟨hx.dt.out.same (hsame _ hl n1),fun p hp=>(hx.dt.inn p hp).same (hsame _ (hl2 p hp) (n2 p hp)),hx.dt.inj,hx.dt.ne⟩,hx.n1⟩,hnew _ hl n1,fun p hp=>hnew _ (hl2 p hp) (n2 p hp)⟩
 refine ⟨ho,fun i x hx=>?_,((h.b.trans (hb1.mono (by omega))).alloc (by omega) o).trans hb⟩
 by_cases hl:i<D.length
 ·rw[List.getElem?_append_left hl] at hx
  obtain ⟨a1,a2,a3⟩:=h.each i x hx
  exact key _ _ x (a1.below hb1) a2 a3
 ·rw[List.getElem?_append_right (by omega)] at hx
  have e:i-D.length=0:=by
   by_cases e:i-D.length=0
   ·exact e
   ·rw[List.getElem?_eq_none (by simp;omega)] at hx;cases hx
  rw[e] at hx
  cases hx
  have ei:i=D.length:=by omega
  subst ei
  have hlow:∀j,W.heap.size<=j->v.ownBlock≠some j:=fun j hj e=>by have:=(E5 h.own e).2;omega
  exact key _ _ d hin (hlow _ h1) (fun p hp=>hlow _ (h2 p hp))
theorem Tryz.infoBB:(Tryz.prog.info? 112).map (fun i=>(i.zero,i.size,i.bytes))=some (some (.slice none 0 0),1,24):=by kernel_rfl
theorem xO {w:World}{base:Nat}{v:Value}{its:List Wd.It}(h:w.ownsRow base 37 2 v its.length (its.flatMap Wd.itV)){k:Nat}(hk:k<its.length):∃g cap,v=.slice (some ⟨g,0,none⟩) its.length cap/\g<w.heap.size/\w.cell? ⟨g,k*2,none⟩=some (.bool (isH its k))/\w.cell? ⟨g,k*2+1,none⟩=some (.string (Wd.mkS (ah its k))):=by
 obtain ⟨g,cap,hv,hb,hlt,h1,h2,hr⟩:=fI (f:=Wd.itV) (n:=2) (L:=its) (fun _=>rfl) h (i:=k) (r:=its[k]) (List.getElem?_eq_getElem hk)
 have e1:isH its k=its[k].handler:=by simp[isH,List.getD,hk]
 have e2:ah its k=its[k].body:=by simp[ah,List.getD,hk]
 rw[e1,e2]
 exact ⟨g,cap,hv,hlt,hr 0 _ rfl,hr 1 _ rfl⟩
def zT (w:World)(r:Except (Int×Int) (List Wd.It))(e:Ending)(w':World):Prop :=
 Below w.heap.size w w'/\(match r with
  | .ok its=>∃ia ic da dc D,e=.returned (.tuple #[.slice ia its.length ic,.slice da its.length dc,.int .i64 0])/\jV w' its (.slice ia its.length ic) (.slice da its.length dc) D
  | .error x=>e=.returned (.tuple #[.slice none 0 0,.slice none 0 0,.int .i64 x.1]))
theorem OE (s:ByteArray)(w:World)(x:Int×Int)(hs:s.size<=maxLen)(hread:Wd.aF s.data.toList=.error x):Calls Tryz.prog 41 #[.string s] w (zT w (.error x)):=by
 have hx:=Wd.jf hread
 have HX:=uK s w hs
 rw[hread] at HX
 have HXX:=hide HX
 clear HX hread
 go_enter Tryz.func41,Tryz.ntmps41
 go_wp2_with (go_at_call 13;refine HXX.out.mono ?_;rintro e w1 ⟨hb1,rfl⟩;have HB1:=hide hb1;clear hb1)
 go_ret3
 exact ⟨HB1.out,rfl⟩
theorem QJ (s:ByteArray)(w:World)(its:List Wd.It)(hs:s.size<=maxLen)(hread:Wd.aF s.data.toList=.ok its):Calls Tryz.prog 41 #[.string s] w (zT w (.ok its)):=by
 have HF:=hide (jP hread)
 have HX:=uK s w hs
 rw[hread] at HX
 have HXX:=hide HX
 clear HX hread
 have hl8:=HF.out.len
 obtain ⟨i0,hj0,hz0,hz1,hz2⟩:=info_parts Tryz.infoBB
 go_enter Tryz.func41,Tryz.ntmps41
 go_wp2_with (go_at_call 13;refine HXX.out.mono ?_;rintro e w1 ⟨hb1,ia,ic,rfl,hown1⟩;have HB1:=hide hb1;have HO1:=hide hown1;clear hb1 hown1)
 have HD0:Hid (DkI w1 w1 its (.slice none 0 0) []):=hide ⟨World.ownsRow_nil _ _ _ _,fun i d hd=>(by cases hd),Below.refl _ _⟩
 go_loopw [7,8] (fun a c wr=>∃(i:Nat) (D:List Dk),i<=its.length/\D.length=i/\c=.int .i64 i/\DkI w1 wr its a D) (fun _ c _=>its.length-(intOf c).toNat)
 case atStart=>exact ⟨0,[],by omega,rfl,rfl,HD0.out⟩
 case round =>
  clear HD0
  obtain ⟨i,D,hi,hDl,rfl,hdk⟩:=hrel
  subst hDl
  have HD:=hide hdk
  clear hdk
  obtain ⟨ao,cc,hv⟩:=bq HD.out.own
  subst hv
  by_cases hlt:D.length<its.length
  ·obtain ⟨g0,cap0,hv0,hg0,d0,d1⟩:=xO HO1.out hlt
   cases hv0
   have c0:wr.cell? ⟨g0,D.length*2,none⟩=some (.bool (isH its D.length)):=by rw[HD.out.b.cell (by exact hg0)];exact d0
   have c1:wr.cell? ⟨g0,D.length*2+1,none⟩=some (.string (Wd.mkS (ah its D.length))):=by rw[HD.out.b.cell (by exact hg0)];exact d1
   have AS:=hide (MJ (isH its D.length) (ah its D.length) wr (HF.out.gb hlt))
   have hi0:(0:Int)<=(D.length:Int):=by omega
   have hsz:=HD.out.b.size
   have hbl:(ah its D.length).length<=300:=HF.out.short _ hlt
   clear d0 d1
   go_wp2_with (first|(at_builtin;refine gP (f:=dkV) zx rfl _ _ 66 rfl w1.heap.size 112 i0 _ 24 Tryz.underlying66 hj0 hz0 hz1 hz2 rfl (by decide) _ D ⟨go,n1,cap,gs⟩ rfl ⟨_,0,none⟩ rfl ?_ ?_ ?_ ?_ ?_ ?_ ?_;(exact HOW.out.alloc _);(exact eZ _ _ _);(intro x hx;simp[dkV] at hx;subst hx;rfl);(unfold maxLen;omega);(omega);(simp;omega);intro ao' cc' w5 hown' aT bn hat';have HO5:=hide hown';have gG:=hide aT;have HS5:=hide bn;have mV:=hide hat';clear hown' aT bn hat')|(go_at_call 65;refine (AS.out).mono ?_;rintro e w2 ⟨go,cap,gs,rfl,hgo,hgs,hdt,hb2⟩;have HB2:=hide hb2;have HDT:=hide hdt;have HGO:=hide hgo;have HGS:=hide hgs;have HOW:=hide (fO HD.out.own (fun j _ hl=>hb2.block j hl));have hz2':=hb2.size;obtain ⟨n1,hn1⟩:∃n1,(ah its D.length).length+1=n1:=⟨_,rfl⟩;rw[hn1];have HN1:=hide hn1;clear hb2 hdt hgo hgs hn1))
   go_round
   case measure=>simp[intOf];omega
   case rel=>exact ⟨D.length+1,D++[⟨go,n1,cap,gs⟩],by omega,by simp,by go_num,HD.out.push HB2.out ⟨HDT.out,HN1.out.symm⟩ HGO.out HGS.out HO5.out gG.out HS5.out mV.out⟩
  ·have e:D.length=its.length:=by omega
   have HE:Hid (jV wr its (.slice ia its.length ic) (.slice ao D.length cc) D):=hide ⟨je (iH HO1.out (Nat.zero_le _)) HD.out.b,iH HD.out.own (Nat.zero_le _),fun i d hd=>(HD.out.each i d hd).1,e,HF.out⟩
   rw[e] at HE
   have HEE:=hide e
   clear e
   go_wp2
   go_ret3
   exact ⟨ak HB1.out HD.out.b,ia,ic,ao,cc,D,by rw[<-HEE.out];rfl,HE.out⟩
theorem vg (s:ByteArray)(w:World)(hs:s.size<=maxLen):Calls Tryz.prog 41 #[.string s] w (zT w (Wd.aF s.data.toList)):=by
 cases hr:Wd.aF s.data.toList with
 | ok its=>exact QJ s w its hs hr
 | error x=>exact OE s w x hs hr
end
end Go.Proofs.YtecmfdkhcffpmaaGreat
