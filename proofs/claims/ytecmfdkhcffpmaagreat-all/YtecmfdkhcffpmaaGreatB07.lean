/- SrcG, SrcH, SrcI. -/
import Derived.Test.YtecmfdkhcffpmaaGreatB06
import Derived.Deep.MidRow
namespace Go.Proofs.YtecmfdkhcffpmaaGreat
open Go.RowKit
set_option linter.unusedVariables false
set_option linter.unusedSimpArgs false
set_option linter.unusedSectionVars false
set_option maxHeartbeats 8000000
set_option maxRecDepth 100000
def PgR (w:World)(b:Nat)(ps:List Wd.Part)(F:Nat->Wd.Fn):Prop:=∃v,w.heap[b]?=some (.cells (Wd.pgA v F) 142 (0,0))/\w.ownsRow 0 176 3 v ps.length (Wd.iJ ps)/\∀g,v.ownBlock=some g->g<b
theorem D5 {w:World}{base:Nat}{e:TypeId}{v:Value}{ps:List Wd.Part}(h:w.ownsRow base e 3 v ps.length (Wd.iJ ps)) :
  ∃ao cap,v=.slice ao ps.length cap/\ps.length<=cap/\cap<=maxLen/\(∀j (hj:j<ps.length),∃g,ao=some ⟨g,0,none⟩/\g<w.heap.size/\w.cell? ⟨g,j*3,none⟩=some (.int .u8 (ps[j]).letter)/\w.cell? ⟨g,j*3+1,none⟩=some (.int .i64 ((ps[j]).pos:Int))/\w.cell? ⟨g,j*3+2,none⟩=some (.string (Wd.mkS (ps[j]).body))):=by
 obtain ⟨hl,h2⟩:=id h
 rcases h2 with ⟨hv,h0⟩ | ⟨g,cap,cur,hv,hg,hh,hn,hm,hs,ht⟩
 ·refine ⟨none,0,by rw[hv,h0],by omega,by unfold maxLen;omega,fun j hj=>by omega⟩
 ·refine ⟨some ⟨g,0,none⟩,cap,hv,hn,hm,fun j hj=>⟨g,rfl,bB hh,?_,?_,?_⟩⟩
  ·have:=h.cells (g:=g) (by rw[hv];rfl) (j*3) _ (Wd.yx ps j 0 hj (by omega))
   rw[Addr.add_mid] at this;simpa using this
  ·have:=h.cells (g:=g) (by rw[hv];rfl) (j*3+1) _ (Wd.yx ps j 1 hj (by omega))
   rw[Addr.add_mid] at this;simpa using this
  ·have:=h.cells (g:=g) (by rw[hv];rfl) (j*3+2) _ (Wd.yx ps j 2 hj (by omega))
   rw[Addr.add_mid] at this;simpa using this
theorem Ij (F:Nat->Wd.Fn)(ps:List Wd.Part)(seen:Nat->Bool)(k:Nat)(hk:k<ps.length):Wd.jN F (ps.drop k) seen =
  if Wd.up (ps[k]).letter=true/\seen ((ps[k]).letter-65).toNat=true then some (ps[k]).pos
  else match Wd.unknown F (ps[k]).body with
   | some u=>some ((ps[k]).pos+2+u)
   | none=>Wd.jN F (ps.drop (k+1)) (if Wd.up (ps[k]).letter=true then (fun j=>if j=((ps[k]).letter-65).toNat then true else seen j) else seen):=by
 rw[List.drop_eq_getElem_cons hk];rfl
theorem H6 (ps:List Wd.Part)(F:Nat->Wd.Fn)(b:Nat)(w:World)(hps:∀p∈ps,p.fine)(hpl:ps.length<=10000)(hpg:PgR w b ps F) :
  Calls Tryz.prog 85 #[.pointer (some ⟨b,0,none⟩)] w fun e w'=>e=.returned (.int .i64 (Wd.toInt (Wd.names F ps)))/\Below w.heap.size w w':=by
 obtain ⟨v,hh,hown,_⟩:=hpg
 obtain ⟨ao,cap,rfl,hnc,hcap,hcell⟩:=D5 hown
 unfold maxLen at hcap
 have c0:w.cell? ⟨b,0,none⟩=some (.slice ao ps.length cap):=aj hh rfl
 have c0':∀o,(w.alloc o).cell? ⟨b,0,none⟩=some (.slice ao ps.length cap):=fun o=>by rw[World.cell?_alloc_past _ _ _ (bB hh)];exact c0
 have HH:=hide hh
 have HCL:=hide hcell
 have HPS:=hide hps
 clear hh hown hcell hps
 go_enter Tryz.func85,Tryz.ntmps85
 go_wp2
 have s0:=heap_alloc_last w (.cells #[.bool false,.bool false,.bool false,.bool false,.bool false,.bool false,.bool false,.bool false] 83)
 have s1:Below w.heap.size w (w.alloc (.cells #[.bool false,.bool false,.bool false,.bool false,.bool false,.bool false,.bool false,.bool false] 83)):=(Below.refl _ _).alloc (Nat.le_refl _) _
 generalize w.alloc (.cells #[.bool false,.bool false,.bool false,.bool false,.bool false,.bool false,.bool false,.bool false] 83)=W at *
 go_loopw [13] (fun a wr=>∃(k:Nat) (seen:Nat->Bool),k<=ps.length/\a=.int .i64 k/\Wd.names F ps=Wd.jN F (ps.drop k) seen/\wr.heap[w.heap.size]?=some (.cells (Wd.oG seen) 83 (0,0))/\Below w.heap.size w wr) (fun a _=>ps.length-(intOf a).toNat)
 case atStart=>exact ⟨0,fun _=>false,Nat.zero_le _,rfl,rfl,s0,s1⟩
 case round =>
  clear s0 s1 c0 c0'
  obtain ⟨k,seen,hk,rfl,hnm,hS,hbe⟩:=hrel
  have HNM:=hide hnm
  have HS:=hide hS
  have HB:=hide hbe
  clear hnm hS hbe
  by_cases hlt:k<ps.length
  ·have HST:=hide (Ij F ps seen k hlt)
   obtain ⟨g,rfl,hg,q0,q1,q2⟩:=HCL.out k hlt
   obtain ⟨b0,b1,b2,b3⟩:=HPS.out ps[k] (List.getElem_mem hlt)
   have d0:=(HB.out.cell (p:=⟨g,k*3,none⟩) hg).trans q0
   have d1:=(HB.out.cell (p:=⟨g,k*3+1,none⟩) hg).trans q1
   have d2:=(HB.out.cell (p:=⟨g,k*3+2,none⟩) hg).trans q2
   have HBR:=hide (dw HB.out HH.out)
   clear q0 q1 q2
   generalize ps[k]=p at *
   obtain ⟨letter,pos,body⟩:=p
   simp only at b0 b1 b2 b3 d0 d1 d2 HST
   have hbs:(Wd.mkS body).size<=10000:=by rw[Wd.bN];exact b3
   have HML:Hid ((Wd.mkS body).data.toList=body):=rfl
   have HUN:=hide (show Wd.unknown F body=Wd.unknown F body from rfl)
   generalize Wd.mkS body=sb at *
   have HB2:Hid ((wr.alloc (.cells #[.int .u8 letter,.int .i64 (pos:Int),.string sb] 176)).heap[b]?=some (.cells (Wd.pgA (.slice (some ⟨g,0,none⟩) ps.length cap) F) 142 (0,0))):=by
    apply hide;rw[heap_alloc_old _ _ (bB HBR.out)];exact HBR.out
   have HS2:Hid ((wr.alloc (.cells #[.int .u8 letter,.int .i64 (pos:Int),.string sb] 176)).heap[w.heap.size]?=some (.cells (Wd.oG seen) 83 (0,0))):=by
    apply hide;rw[heap_alloc_old _ _ (bB HS.out)];exact HS.out
   cases hu:Wd.up letter
   ·have HE:Hid (Wd.names F ps=match Wd.unknown F body with|some u=>some (pos+2+u)|none=>Wd.jN F (ps.drop (k+1)) seen):=by
     apply hide;rw[HNM.out,HST.out,hu];rfl
    cases hq:Wd.unknown F body with
    | some u =>
     rw[hq] at HE
     have hul:=Wd.xU hq
     have HUQ:=hide hq
     have hne:((u:Int) != -1)=true:=by rw[bne_iff_ne];omega
     clear hq
     go_wp2_with (first|(go_at_call 111;refine (dN _ _ b0 b1).mono ?_;rw[hu];rintro e w' ⟨rfl,rfl⟩)|(go_at_call 112;refine (ug _ F _ b _ hbs HB2.out).mono ?_;rw[HML.out,HUQ.out,show Wd.toInt (some u)=(u:Int) from rfl];rintro e w' ⟨rfl,rfl⟩))
     go_ret
     exact ⟨aO (by rw[HE.out];simp[Wd.toInt]),HB.out.alloc HB.out.size _⟩
    | none =>
     rw[hq] at HE
     have HUQ:=hide hq
     clear hq
     go_wp2_with (first|(go_at_call 111;refine (dN _ _ b0 b1).mono ?_;rw[hu];rintro e w' ⟨rfl,rfl⟩)|(go_at_call 112;refine (ug _ F _ b _ hbs HB2.out).mono ?_;rw[HML.out,HUQ.out,show Wd.toInt none=-1 from rfl];rintro e w' ⟨rfl,rfl⟩))
     refine ⟨⟨k+1,seen,by omega,by go_num,HE.out,HS2.out,HB.out.alloc HB.out.size _⟩,by simp[intOf];omega⟩
   ·have hu':=hu
    simp[Wd.up] at hu'
    have hi8:(letter-65).toNat<8:=by omega
    have e1:=aj HS2.out (Wd.PL seen _ hi8)
    have e2:=frozen_of_row _ w.heap.size (letter-65).toNat _ _ HS2.out
    cases hsn:seen (letter-65).toNat
    ·rw[hsn] at e1
     have HE:Hid (Wd.names F ps=match Wd.unknown F body with|some u=>some (pos+2+u)|none=>Wd.jN F (ps.drop (k+1)) (fun j=>if j=(letter-65).toNat then true else seen j)):=by
      apply hide;rw[HNM.out,HST.out,hu,hsn];simp
     have hbh:b<w.heap.size:=bB HH.out
     have HB3:Hid (((wr.setCell ⟨w.heap.size,(letter-65).toNat,none⟩ (.bool true)).alloc (.cells #[.int .u8 letter,.int .i64 (pos:Int),.string sb] 176)).heap[b]?=some (.cells (Wd.pgA (.slice (some ⟨g,0,none⟩) ps.length cap) F) 142 (0,0))):=by
      apply hide;rw[heap_alloc_old _ _ (by have:=bB HBR.out;simp[World.setCell];omega),heap_setCell_other _ _ _ _ (by show b≠w.heap.size;omega)];exact HBR.out
     have HS3:Hid (((wr.setCell ⟨w.heap.size,(letter-65).toNat,none⟩ (.bool true)).alloc (.cells #[.int .u8 letter,.int .i64 (pos:Int),.string sb] 176)).heap[w.heap.size]?=some (.cells (Wd.oG (fun j=>if j=(letter-65).toNat then true else seen j)) 83 (0,0))):=by
      apply hide;rw[heap_alloc_old _ _ (by have:=bB HS.out;simp[World.setCell];omega),heap_setCell_same _ _ _ _ _ _ HS.out,Wd.NH _ _ _ hi8]
     have hhw:w.heap.size<wr.heap.size:=bB HS.out
     have hhb:b<wr.heap.size:=bB HBR.out
     cases hq:Wd.unknown F body with
     | some u =>
      rw[hq] at HE
      have hul:=Wd.xU hq
      have HUQ:=hide hq
      have hne:((u:Int) != -1)=true:=by rw[bne_iff_ne];omega
      clear hq
      go_wp2_with (first|(go_at_call 111;refine (dN _ _ b0 b1).mono ?_;rw[hu];rintro e w' ⟨rfl,rfl⟩)|(go_at_call 112;refine (ug _ F _ b _ hbs HB3.out).mono ?_;rw[HML.out,HUQ.out,show Wd.toInt (some u)=(u:Int) from rfl];rintro e w' ⟨rfl,rfl⟩))
      go_ret
      exact ⟨aO (by rw[HE.out];simp[Wd.toInt]),(bE HB.out _).alloc (by have:=HB.out.size;simp[World.setCell];omega) _⟩
     | none =>
      rw[hq] at HE
      have HUQ:=hide hq
      clear hq
      go_wp2_with (first|(go_at_call 111;refine (dN _ _ b0 b1).mono ?_;rw[hu];rintro e w' ⟨rfl,rfl⟩)|(go_at_call 112;refine (ug _ F _ b _ hbs HB3.out).mono ?_;rw[HML.out,HUQ.out,show Wd.toInt none=-1 from rfl];rintro e w' ⟨rfl,rfl⟩))
      refine ⟨⟨k+1,fun j=>if j=(letter-65).toNat then true else seen j,by omega,by go_num,HE.out,HS3.out,(bE HB.out _).alloc (by have:=HB.out.size;simp[World.setCell];omega) _⟩,by simp[intOf];omega⟩
    ·rw[hsn] at e1
     have HE:Hid (Wd.names F ps=some pos):=by
      apply hide;rw[HNM.out,HST.out,hu,hsn];simp
     go_wp2_with (first|(go_at_call 111;refine (dN _ _ b0 b1).mono ?_;rw[hu];rintro e w' ⟨rfl,rfl⟩))
     go_ret
     exact ⟨aO (by rw[HE.out];rfl),HB.out.alloc HB.out.size _⟩
  ·go_wp2
   go_ret
   exact ⟨aO (by rw[HNM.out,List.drop_of_length_le (by omega)];rfl),HB.out⟩
theorem PgR.below {w w':World}{b:Nat}{ps:List Wd.Part}{F:Nat->Wd.Fn}(h:PgR w b ps F)(hb:Below w.heap.size w w'):PgR w' b ps F:=by
 obtain ⟨v,h1,h2,h3⟩:=h
 refine ⟨v,dw hb h1,?_,h3⟩
 obtain ⟨a1,a2⟩:=h2
 refine ⟨a1,?_⟩
 rcases a2 with a2 | ⟨g,cap,cur,hv,hg,hh,r⟩
 ·exact .inl a2
 ·exact .inr ⟨g,cap,cur,hv,hg,dw hb hh,r⟩
theorem PgR.fn {w:World}{b:Nat}{ps:List Wd.Part}{F:Nat->Wd.Fn}(h:PgR w b ps F)(i:Nat)(hi:i<8)(f:Wd.Fn) :
  PgR (((((w.setCell ⟨b,1+i*5,none⟩ (.bool f.there)).setCell ⟨b,1+i*5+1,none⟩ (.string (Wd.mkS f.body))).setCell ⟨b,1+i*5+2,none⟩ (.bool f.done)).setCell ⟨b,1+i*5+3,none⟩ (.bool f.fits)).setCell ⟨b,1+i*5+4,none⟩ (.string (Wd.mkS f.text))) b ps (fun j=>if j=i then f else F j):=by
 obtain ⟨v,h1,h2,h3⟩:=h
 have a1:=heap_setCell_same w b (1+i*5) _ _ (.bool f.there) h1
 have a2:=heap_setCell_same _ b (1+i*5+1) _ _ (.string (Wd.mkS f.body)) a1
 have a3:=heap_setCell_same _ b (1+i*5+2) _ _ (.bool f.done) a2
 have a4:=heap_setCell_same _ b (1+i*5+3) _ _ (.bool f.fits) a3
 have a5:=heap_setCell_same _ b (1+i*5+4) _ _ (.string (Wd.mkS f.text)) a4
 rw[Wd.Fh v F i f hi] at a5
 refine ⟨v,a5,?_,h3⟩
 obtain ⟨a1,a2⟩:=h2
 refine ⟨a1,?_⟩
 rcases a2 with a2 | ⟨g,cap,cur,hv,hg,hh,r⟩
 ·exact .inl a2
 ·have hgb:g<b:=h3 g (by rw[hv];rfl)
  refine .inr ⟨g,cap,cur,hv,hg,?_,r⟩
  rw[heap_setCell_other _ _ _ _ (by show g≠b;omega),heap_setCell_other _ _ _ _ (by show g≠b;omega),heap_setCell_other _ _ _ _ (by show g≠b;omega),heap_setCell_other _ _ _ _ (by show g≠b;omega),heap_setCell_other _ _ _ _ (by show g≠b;omega)]
  exact hh
theorem PgR.above {w:World}{b:Nat}{ps:List Wd.Part}{F:Nat->Wd.Fn}(h:PgR w b ps F){N:Nat}(hN:b<N)(o:Nat)(u:Value):PgR (w.setCell ⟨N,o,none⟩ u) b ps F:=by
 obtain ⟨v,h1,h2,h3⟩:=h
 refine ⟨v,by rw[heap_setCell_other _ _ _ _ (by show b≠N;omega)];exact h1,?_,h3⟩
 obtain ⟨a1,a2⟩:=h2
 refine ⟨a1,?_⟩
 rcases a2 with a2 | ⟨g,cap,cur,hv,hg,hh,r⟩
 ·exact .inl a2
 ·have hgb:g<b:=h3 g (by rw[hv];rfl)
  exact .inr ⟨g,cap,cur,hv,hg,by rw[heap_setCell_other _ _ _ _ (by show g≠N;omega)];exact hh,r⟩
theorem PgR.draw {w:World}{b:Nat}{ps:List Wd.Part}{F:Nat->Wd.Fn}(h:PgR w b ps F):PgR w.drew b ps F:=h
theorem H8 (ps:List Wd.Part)(F:Nat->Wd.Fn)(b:Nat)(w:World)(hF:Wd.kF F)(hpg:PgR w b ps F) :
  Calls Tryz.prog 113 #[.pointer (some ⟨b,0,none⟩)] w fun e w'=>e=.returned (.tuple #[])/\PgR w' b ps (Wd.fF F 8)/\Below b w w':=by
 have HF:=hide hF
 have HP:=hide hpg
 clear hF hpg
 go_enter Tryz.func113,Tryz.ntmps113
 go_wp2
 go_loopw [2] (fun a wr=>∃k:Nat,k<=8/\a=.int .i64 k/\PgR wr b ps (Wd.fF F k)/\Below b w wr) (fun a _=>8-(intOf a).toNat)
 case atStart=>exact ⟨0,by omega,rfl,HP.out,Below.refl _ _⟩
 case round =>
  clear HP
  obtain ⟨k,hk,rfl,hp,hbe⟩:=hrel
  have HP:=hide hp
  have HB:=hide hbe
  clear hp hbe
  by_cases hlt:k<8
  ·have HG:=hide (Wd.BO HF.out k)
   have HS:=hide (show Wd.fF F (k+1)=Wd.dh (Wd.fF F k) k from rfl)
   generalize Wd.fF F k=G at *
   obtain ⟨v,hh,_⟩:=HP.out
   have HH:=hide hh
   have r0:wr.cell? ⟨b,1+k*5,none⟩=some (.bool (G k).there):=aj hh (Wd.fH _ G _ 0 hlt _ rfl)
   have r1:wr.cell? ⟨b,1+k*5+1,none⟩=some (.string (Wd.mkS (G k).body)):=aj hh (Wd.fH _ G _ 1 hlt _ rfl)
   have r2:wr.cell? ⟨b,1+k*5+2,none⟩=some (.bool (G k).done):=aj hh (Wd.fH _ G _ 2 hlt _ rfl)
   have r3:wr.cell? ⟨b,1+k*5+3,none⟩=some (.bool (G k).fits):=aj hh (Wd.fH _ G _ 3 hlt _ rfl)
   have r4:wr.cell? ⟨b,1+k*5+4,none⟩=some (.string (Wd.mkS (G k).text)):=aj hh (Wd.fH _ G _ 4 hlt _ rfl)
   have hbl:=bB hh
   clear hh
   have hml:(Wd.mkS (G k).body).size<=10000:=by rw[Wd.bN];exact (HG.out k).2
   have HML:Hid ((Wd.mkS (G k).body).data.toList=(G k).body):=rfl
   have HMK:Hid (Wd.mkS (G k).body=Wd.mkS (G k).body):=rfl
   generalize hsb:Wd.mkS (G k).body=sb at *
   have HSB:=hide hsb
   clear hsb HMK
   generalize hst:Wd.mkS (G k).text=st at *
   have HST:=hide hst
   clear hst
   go_wp2_with fail
   have HP2:=hide (HP.out.below ((Below.refl _ _).alloc (Nat.le_refl _) (.cells #[.bool (G k).there,.string sb,.bool (G k).done,.bool (G k).fits,.string st] 139)))
   have HN:=hide (heap_alloc_last wr (.cells #[.bool (G k).there,.string sb,.bool (G k).done,.bool (G k).fits,.string st] 139))
   have HB2:Hid (Below b w (wr.alloc (.cells #[.bool (G k).there,.string sb,.bool (G k).done,.bool (G k).fits,.string st] 139))):=HB.out.alloc (by omega) _
   generalize wr.alloc (.cells #[.bool (G k).there,.string sb,.bool (G k).done,.bool (G k).fits,.string st] 139)=W at *
   generalize wr.heap.size=N at *
   clear r0 r1 r2 r3 r4
   obtain ⟨v2,hh2,hown2,hlt2⟩:=HP2.out
   have HH2:=hide hh2
   refine (J9 sb G v2 b W hml hh2).mono ?_
   rw[HML.out]
   rintro e w1 ⟨rfl,rfl⟩
   have n0:w1.cell? ⟨N,0,none⟩=some (.bool (G k).there):=aj HN.out rfl
   have n1:w1.cell? ⟨N,1,none⟩=some (.string sb):=aj HN.out rfl
   have n2:w1.cell? ⟨N,2,none⟩=some (.bool (G k).done):=aj HN.out rfl
   clear hh2 hown2 hlt2
   cases h1:(G k).there
   ·rw[h1] at n0
    go_wp2_with fail
    refine ⟨⟨k+1,by omega,by go_num,?_,HB2.out⟩,by simp[intOf];omega⟩
    rw[HS.out,Wd.dh,if_neg (by simp[h1])]
    exact HP2.out
   ·cases h2:(G k).done
    ·cases h3:Wd.jO G (G k).body
     ·rw[h1] at n0
      rw[h2] at n2
      go_wp2_with fail
      refine ⟨⟨k+1,by omega,by go_num,?_,HB2.out⟩,by simp[intOf];omega⟩
      rw[HS.out,Wd.dh,if_neg (by simp[h3])]
      exact HP2.out
     ·rw[h1] at n0
      rw[h2] at n2
      have HX:=Dg sb G v2 b w1 hml (fun j=>(HG.out j).1) HH2.out
      rw[HML.out] at HX
      have HSS:Hid (Wd.fF F (k+1)=fun j=>if j=k then Wd.eY G (G k) else G j):=by
       apply hide;rw[HS.out,Wd.dh,if_pos ⟨h1,h2,h3⟩]
      have HUF:Hid (∃(t:List UInt8) (ft:Bool),Wd.eY G (G k)=⟨(G k).there,(G k).body,true,ft,t⟩/\Fj w1 (Wd.unfold G (G k).body)=fun e w'=>Below w1.heap.size w1 w'/\e=.returned (.tuple #[.string (Wd.mkS t),.bool ft])):=by
       apply hide
       cases hq:Wd.unfold G (G k).body with
       | some x=>exact ⟨x,true,by simp[Wd.eY,hq],rfl⟩
       | none=>exact ⟨[],false,by simp[Wd.eY,hq],rfl⟩
      obtain ⟨t,ft,hnf,hpo⟩:=HUF.out
      rw[hpo] at HX
      have HXX:=hide HX
      have HNF:=hide hnf
      clear HX hnf hpo HUF h3
      go_wp2_with fail
      refine HXX.out.mono ?_
      rintro e w2 ⟨hb2,rfl⟩
      have q1:=dw hb2 HN.out
      have HP3:=hide (HP2.out.below hb2)
      have HB3:=hide (HB2.out.trans (hb2.mono (by have:=bB HH2.out;omega)))
      have k0:w2.cell? ⟨N,0,none⟩=some (.bool (G k).there):=aj q1 rfl
      have k1:w2.cell? ⟨N,1,none⟩=some (.string sb):=aj q1 rfl
      have k2:w2.cell? ⟨N,2,none⟩=some (.bool (G k).done):=aj q1 rfl
      have k3:w2.cell? ⟨N,3,none⟩=some (.bool (G k).fits):=aj q1 rfl
      have k4:w2.cell? ⟨N,4,none⟩=some (.string st):=aj q1 rfl
      have z2:=frozen_of_row w2 N 2 _ _ q1
      have z3:=frozen_of_row w2 N 3 _ _ q1
      have z4:=frozen_of_row w2 N 4 _ _ q1
      have HQ1:=hide q1
      clear hb2 q1 n0 n1 n2
      go_wp2_with fail
      have hbN:b<N:=hbl
      have p1:(((w2.setCell ⟨N,2,none⟩ (.bool true)).setCell ⟨N,3,none⟩ (.bool ft)).setCell ⟨N,4,none⟩ (.string (Wd.mkS t))).heap[N]?=some (.cells #[.bool true,.string sb,.bool true,.bool ft,.string (Wd.mkS t)] 139 (0,0)):=by
       have x1:=heap_setCell_same w2 N 2 _ _ (.bool true) HQ1.out
       have x2:=heap_setCell_same _ N 3 _ _ (.bool ft) x1
       have x3:=heap_setCell_same _ N 4 _ _ (.string (Wd.mkS t)) x2
       rw[x3,h1];rfl
      have p2:PgR (((w2.setCell ⟨N,2,none⟩ (.bool true)).setCell ⟨N,3,none⟩ (.bool ft)).setCell ⟨N,4,none⟩ (.string (Wd.mkS t))) b ps G:=((HP3.out.above hbN _ _).above hbN _ _).above hbN _ _
      have p3:Below b w (((w2.setCell ⟨N,2,none⟩ (.bool true)).setCell ⟨N,3,none⟩ (.bool ft)).setCell ⟨N,4,none⟩ (.string (Wd.mkS t))):=((HB3.out.setCell (p:=⟨N,2,none⟩) (by show b<=N;omega) _).setCell (p:=⟨N,3,none⟩) (by show b<=N;omega) _).setCell (p:=⟨N,4,none⟩) (by show b<=N;omega) _
      clear k0 k1 k2 k3 k4 z2 z3 z4
      generalize (((w2.setCell ⟨N,2,none⟩ (.bool true)).setCell ⟨N,3,none⟩ (.bool ft)).setCell ⟨N,4,none⟩ (.string (Wd.mkS t)))=W3 at *
      obtain ⟨v3,hh3,hown3,hlt3⟩:=id p2
      have d0:W3.cell? ⟨N,0,none⟩=some (.bool true):=aj p1 rfl
      have d1:W3.cell? ⟨N,1,none⟩=some (.string sb):=aj p1 rfl
      have d2:W3.cell? ⟨N,2,none⟩=some (.bool true):=aj p1 rfl
      have d3:W3.cell? ⟨N,3,none⟩=some (.bool ft):=aj p1 rfl
      have d4:W3.cell? ⟨N,4,none⟩=some (.string (Wd.mkS t)):=aj p1 rfl
      have r0:W3.cell? ⟨b,1+k*5,none⟩=some (.bool (G k).there):=aj hh3 (Wd.fH _ G _ 0 hlt _ rfl)
      have r1:W3.cell? ⟨b,1+k*5+1,none⟩=some (.string (Wd.mkS (G k).body)):=aj hh3 (Wd.fH _ G _ 1 hlt _ rfl)
      have r2:W3.cell? ⟨b,1+k*5+2,none⟩=some (.bool (G k).done):=aj hh3 (Wd.fH _ G _ 2 hlt _ rfl)
      have r3:W3.cell? ⟨b,1+k*5+3,none⟩=some (.bool (G k).fits):=aj hh3 (Wd.fH _ G _ 3 hlt _ rfl)
      have r4:W3.cell? ⟨b,1+k*5+4,none⟩=some (.string (Wd.mkS (G k).text)):=aj hh3 (Wd.fH _ G _ 4 hlt _ rfl)
      have z0:=frozen_of_row W3 b (1+k*5) _ _ hh3
      have z1:=frozen_of_row W3 b (1+k*5+1) _ _ hh3
      have z2:=frozen_of_row W3 b (1+k*5+2) _ _ hh3
      have z3:=frozen_of_row W3 b (1+k*5+3) _ _ hh3
      have z4:=frozen_of_row W3 b (1+k*5+4) _ _ hh3
      have P2:=hide p2
      have P3:=hide p3
      clear hh3 hown3 hlt3 p1 p2 p3
      go_region
      all_goals go_wp2
      all_goals
       refine ⟨⟨k+1,by omega,by go_num,?_,(bE (bE (bE (bE (bE P3.out _) _) _) _) _).drew⟩,by simp[intOf];omega⟩
       rw[HSS.out,HNF.out,<-HSB.out,h1]
       exact PgR.draw (P2.out.fn k hlt ⟨true,(G k).body,true,ft,t⟩)
    ·rw[h1] at n0
     rw[h2] at n2
     go_wp2_with fail
     refine ⟨⟨k+1,by omega,by go_num,?_,HB2.out⟩,by simp[intOf];omega⟩
     rw[HS.out,Wd.dh,if_neg (by simp[h2])]
     exact HP2.out
  ·go_wp2
   go_end0
   obtain rfl:k=8:=by omega
   exact ⟨rfl,HP.out,HB.out⟩
def jr (F:Nat->Wd.Fn):List Value:=Wd.fnV (F 0)++Wd.fnV (F 1)++Wd.fnV (F 2)++Wd.fnV (F 3)++Wd.fnV (F 4)++Wd.fnV (F 5)++Wd.fnV (F 6)++Wd.fnV (F 7)
theorem IA (F:Nat->Wd.Fn)(w:World):(Instr.index 140 (.agg (jr F).toArray) (.int .i64 0)).run Tryz.prog w=.ok (.agg #[.bool (F 0).there,.string (Wd.mkS (F 0).body),.bool (F 0).done,.bool (F 0).fits,.string (Wd.mkS (F 0).text)]) w:=by kernel_rfl
theorem IB (F:Nat->Wd.Fn)(w:World):(Instr.index 140 (.agg (jr F).toArray) (.int .i64 1)).run Tryz.prog w=.ok (.agg #[.bool (F 1).there,.string (Wd.mkS (F 1).body),.bool (F 1).done,.bool (F 1).fits,.string (Wd.mkS (F 1).text)]) w:=by kernel_rfl
theorem IC (F:Nat->Wd.Fn)(w:World):(Instr.index 140 (.agg (jr F).toArray) (.int .i64 2)).run Tryz.prog w=.ok (.agg #[.bool (F 2).there,.string (Wd.mkS (F 2).body),.bool (F 2).done,.bool (F 2).fits,.string (Wd.mkS (F 2).text)]) w:=by kernel_rfl
theorem IE (F:Nat->Wd.Fn)(w:World):(Instr.index 140 (.agg (jr F).toArray) (.int .i64 3)).run Tryz.prog w=.ok (.agg #[.bool (F 3).there,.string (Wd.mkS (F 3).body),.bool (F 3).done,.bool (F 3).fits,.string (Wd.mkS (F 3).text)]) w:=by kernel_rfl
theorem IG (F:Nat->Wd.Fn)(w:World):(Instr.index 140 (.agg (jr F).toArray) (.int .i64 4)).run Tryz.prog w=.ok (.agg #[.bool (F 4).there,.string (Wd.mkS (F 4).body),.bool (F 4).done,.bool (F 4).fits,.string (Wd.mkS (F 4).text)]) w:=by kernel_rfl
theorem II (F:Nat->Wd.Fn)(w:World):(Instr.index 140 (.agg (jr F).toArray) (.int .i64 5)).run Tryz.prog w=.ok (.agg #[.bool (F 5).there,.string (Wd.mkS (F 5).body),.bool (F 5).done,.bool (F 5).fits,.string (Wd.mkS (F 5).text)]) w:=by kernel_rfl
theorem IJ (F:Nat->Wd.Fn)(w:World):(Instr.index 140 (.agg (jr F).toArray) (.int .i64 6)).run Tryz.prog w=.ok (.agg #[.bool (F 6).there,.string (Wd.mkS (F 6).body),.bool (F 6).done,.bool (F 6).fits,.string (Wd.mkS (F 6).text)]) w:=by kernel_rfl
theorem IK (F:Nat->Wd.Fn)(w:World):(Instr.index 140 (.agg (jr F).toArray) (.int .i64 7)).run Tryz.prog w=.ok (.agg #[.bool (F 7).there,.string (Wd.mkS (F 7).body),.bool (F 7).done,.bool (F 7).fits,.string (Wd.mkS (F 7).text)]) w:=by kernel_rfl
theorem Ka (F:Nat->Wd.Fn)(k:Nat)(hk:k<8)(w:World):(Instr.index 140 (.agg (jr F).toArray) (.int .i64 (k:Int))).run Tryz.prog w=.ok (.agg #[.bool (F k).there,.string (Wd.mkS (F k).body),.bool (F k).done,.bool (F k).fits,.string (Wd.mkS (F k).text)]) w:=by
 match k,hk with
 | 0,_=>exact IA F w
 | 1,_=>exact IB F w
 | 2,_=>exact IC F w
 | 3,_=>exact IE F w
 | 4,_=>exact IG F w
 | 5,_=>exact II F w
 | 6,_=>exact IJ F w
 | 7,_=>exact IK F w
theorem xg {ops:Array Oper}{rest:List Oper}{o:Oper}{a:Act}{w:World}{Q:Exit->Act->World->Prop}(hg:o.guard=none)(x y:Operand)(ho:o.op=.index 140 x y)(F:Nat->Wd.Fn)(hx:a.eval x=.agg (jr F).toArray)(k:Nat)(hy:a.eval y=.int .i64 (k:Int))(hk:k<8)
  (h:wpList Tryz.prog ops Q rest (a.put o.dst (.agg #[.bool (F k).there,.string (Wd.mkS (F k).body),.bool (F k).done,.bool (F k).fits,.string (Wd.mkS (F k).text)])) w):wpList Tryz.prog ops Q (o::rest) a w:=by
 refine wpList_runTo' hg _ _ ?_ h
 unfold execOp
 simp only[ho,hx,hy,Sem.run_bind,Sem.run_pure,Ka F k hk,Result.andThen_ok]
theorem PO (v:Value)(F:Nat->Wd.Fn):(Wd.pgA v F).toList=v::jr F:=by
 simp only[Wd.pgA,jr,Wd.fnV,List.cons_append,List.nil_append]
theorem NI {w:World}{b:Nat}{v:Value}{F:Nat->Wd.Fn}(h:w.heap[b]?=some (.cells (Wd.pgA v F) 142 (0,0))):w.rangeAt b 1 (jr F):=by
 intro j u hu
 rw[cell_of_row w b (1+j) _ _ _ h,<-Array.getElem?_toList,PO,Nat.add_comm,List.getElem?_cons_succ]
 exact hu
theorem Tryz.i53:(Tryz.prog.info? 140).map (·.size)=some 40:=by kernel_rfl
theorem Hz (ps:List Wd.Part)(F:Nat->Wd.Fn)(b:Nat)(w:World)(hF:Wd.kF F)(hpg:PgR w b ps F) :
  Calls Tryz.prog 86 #[.pointer (some ⟨b,0,none⟩)] w fun e w'=>e=.returned (.bool (!Wd.left (Wd.bJ F 8)))/\PgR w' b ps (Wd.bJ F 8)/\Below b w w':=by
 have HF:=hide hF
 have HP:=hide hpg
 clear hF hpg
 go_enter Tryz.func86,Tryz.ntmps86
 go_wp2
 go_loopw [3] (fun a wr=>∃k:Nat,k<=8/\a=.int .i64 k/\PgR wr b ps (Wd.bJ F k)/\Below b w wr) (fun a _=>8-(intOf a).toNat)
 case atStart=>exact ⟨0,by omega,rfl,HP.out,Below.refl _ _⟩
 case round =>
  clear HP
  obtain ⟨k,hk,rfl,hp,hbe⟩:=hrel
  have HP:=hide hp
  have HB:=hide hbe
  clear hp hbe
  by_cases hlt:k<8
  ·go_wp2_with (go_at_call 113;refine (H8 ps _ b _ (Wd.Bt HF.out k) HP.out).mono ?_;rintro e w1 ⟨rfl,hp1,hb1⟩)
   go_roundw
   case rel=>exact ⟨k+1,by omega,by go_num,hp1,HB.out.trans hb1⟩
   case measure=>simp[intOf];omega
  ·obtain rfl:k=8:=by omega
   generalize hGq:Wd.bJ F 8=G at *
   have HGQ:=hide hGq
   clear hGq
   obtain ⟨v,hh,_⟩:=HP.out
   have HH:=hide hh
   have hbl:=bB hh
   clear hh
   go_wp2_with (refine wpList_load_mid rfl 140 _ rfl b 1 rfl (jr G) _ (NI HH.out) Tryz.underlying140 rfl Tryz.i53 ?_)
   have HPB:Hid (∀wx,Below wr.heap.size wr wx->PgR wx b ps G/\Below b w wx):=fun wx hx=>⟨HP.out.below hx,HB.out.trans (hx.mono (by omega))⟩
   go_loopw [16] (fun a wx=>∃j:Nat,j<=8/\a=.int .i64 j/\(∀i,i<j->Wd.wH G i=false)/\Below wr.heap.size wr wx) (fun a _=>8-(intOf a).toNat)
   case atStart=>exact ⟨0,by omega,rfl,fun i hi=>by omega,Below.refl _ _⟩
   case round =>
    obtain ⟨j,hj,rfl,hno,hbx⟩:=hrel
    have HNO:=hide hno
    have HBX:=hide hbx
    clear hno hbx
    by_cases hjl:j<8
    ·have HLP:=hide (show Wd.wH G j=((G j).there&&!(G j).done) from rfl)
     generalize Wd.mkS (G j).body=sb
     cases h1:(G j).there
     ·go_wp2_with (refine xg rfl _ _ rfl G rfl j rfl hjl ?_)
      refine ⟨⟨j+1,by omega,by go_num,fun i hi=>?_,HBX.out.alloc HBX.out.size _⟩,by simp[intOf];omega⟩
      by_cases e:i=j
      ·subst e;rw[HLP.out,h1];rfl
      ·exact HNO.out i (by omega)
     ·cases h2:(G j).done
      ·go_wp2_with (refine xg rfl _ _ rfl G rfl j rfl hjl ?_)
       go_ret
       have hx:=HPB.out _ (HBX.out.alloc HBX.out.size (.cells #[.bool (G j).there,.string (Wd.mkS (G j).body),.bool (G j).done,.bool (G j).fits,.string (Wd.mkS (G j).text)] 139))
       rw[h1,h2] at hx
       refine ⟨?_,?_,hx.2⟩
       ·rw[HGQ.out,Wd.left,Wd.jL hjl (by rw[HLP.out,h1,h2];rfl) HNO.out];rfl
       ·rw[HGQ.out];exact hx.1
      ·go_wp2_with (refine xg rfl _ _ rfl G rfl j rfl hjl ?_)
       refine ⟨⟨j+1,by omega,by go_num,fun i hi=>?_,HBX.out.alloc HBX.out.size _⟩,by simp[intOf];omega⟩
       by_cases e:i=j
       ·subst e;rw[HLP.out,h1,h2];rfl
       ·exact HNO.out i (by omega)
    ·go_wp2
     go_ret
     have hx:=HPB.out _ HBX.out
     refine ⟨?_,by rw[HGQ.out];exact hx.1,hx.2⟩
     rw[HGQ.out,Wd.left,Wd.lJ (fun i hi=>HNO.out i (by omega))];rfl
end Go.Proofs.YtecmfdkhcffpmaaGreat
