/- SrcJ, Pure9, SrcK, Same1. -/
import Derived.Test.YtecmfdkhcffpmaaGreatB07
import Derived.Test.YtecmfdkhcffpmaaGreatB06
import Derived.Test.YtecmfdkhcffpmaaGreatB03
namespace Go.Proofs.YtecmfdkhcffpmaaGreat
open Go.RowKit
set_option linter.unusedVariables false
set_option linter.unusedSimpArgs false
set_option linter.unusedSectionVars false
set_option maxHeartbeats 8000000
set_option maxRecDepth 100000
theorem Tryz.info31:(Tryz.prog.info? 37).map (fun i=>(i.zero,i.size,i.bytes))=some (some (.agg #[.bool false,.string ByteArray.empty]),2,24):=by kernel_rfl
def SG (w:World)(r:Except Nat (List Wd.It))(e:Ending)(w':World):Prop :=
 Below w.heap.size w w'/\(match r with
  | .ok its=>∃g cap,e=.returned (.tuple #[.slice (some ⟨g,0,none⟩) its.length cap,.int .i64 (-1)])/\w'.ownsRow w.heap.size 37 2 (.slice (some ⟨g,0,none⟩) its.length cap) its.length (Wd.dV its)
  | .error n=>e=.returned (.tuple #[.slice none 0 0,.int .i64 (n:Int)]))
theorem Ik (F:Nat->Wd.Fn)(ps:List Wd.Part)(acc:List Wd.It)(k:Nat)(hk:k<ps.length):Wd.dR F (ps.drop k) acc =
  if Wd.up (ps[k]).letter=true then Wd.dR F (ps.drop (k+1)) acc
  else match Wd.unfold F (ps[k]).body with
   | some x=>Wd.dR F (ps.drop (k+1)) (acc++[⟨(ps[k]).letter==104,x⟩])
   | none=>.error acc.length:=by
 rw[List.drop_eq_getElem_cons hk];rfl
theorem H9 (ps:List Wd.Part)(F:Nat->Wd.Fn)(b:Nat)(w:World)(hps:∀p∈ps,p.fine)(hpl:ps.length<=10000)(hF:Wd.kF F)(hpg:PgR w b ps F) :
  Calls Tryz.prog 87 #[.pointer (some ⟨b,0,none⟩)] w (SG w (Wd.items F ps)):=by
 obtain ⟨v,hh,hown,_⟩:=hpg
 obtain ⟨ao,cap,rfl,hnc,hcap,hcell⟩:=D5 hown
 obtain ⟨i0,hi,hz0,hz1,hz2⟩:=info_parts Tryz.info31
 unfold maxLen at hcap
 have c0:w.cell? ⟨b,0,none⟩=some (.slice ao ps.length cap):=aj hh rfl
 have c0':∀o,(w.alloc o).cell? ⟨b,0,none⟩=some (.slice ao ps.length cap):=fun o=>by rw[World.cell?_alloc_past _ _ _ (bB hh)];exact c0
 have HH:=hide hh
 have HCL:=hide hcell
 have HPS:=hide hps
 have HF:=hide hF
 clear hh hown hcell hps hF
 have hr0:Hid (Wd.items F ps=Wd.dR F (ps.drop 0) []):=rfl
 generalize hr:Wd.items F ps=r at *
 clear hr
 go_enter Tryz.func87,Tryz.ntmps87
 go_wp2
 have s0:(w.alloc (.cells #[] 37)).ownsRow w.heap.size 37 2 (.slice (some ⟨w.heap.size,0,none⟩) 0 0) 0 []:=World.ownsRow_made w #[] 0 (Nat.le_refl _) (by unfold maxLen;omega) rfl
 have s1:Below w.heap.size w (w.alloc (.cells #[] 37)):=(Below.refl _ _).alloc (Nat.le_refl _) _
 generalize w.alloc (.cells #[] 37)=W at *
 go_loopw [4,15] (fun a b wr=>∃(k:Nat) (acc:List Wd.It) (g cp:Nat),k<=ps.length/\b=.int .i64 k/\acc.length<=k/\a=.slice (some ⟨g,0,none⟩) acc.length cp/\wr.ownsRow w.heap.size 37 2 (.slice (some ⟨g,0,none⟩) acc.length cp) acc.length (Wd.dV acc)/\r=Wd.dR F (ps.drop k) acc/\Below w.heap.size w wr) (fun _ b _=>ps.length-(intOf b).toNat)
 case atStart=>exact ⟨0,[],w.heap.size,0,Nat.zero_le _,rfl,by simp,rfl,s0,hr0.out,s1⟩
 case round =>
  clear s0 s1 c0 c0' hr0
  obtain ⟨k,acc,g0,cp,hk,rfl,hal,rfl,hO,hr,hbe⟩:=hrel
  have HO:=hide hO
  have HR:=hide hr
  have HB:=hide hbe
  clear hO hr hbe
  by_cases hlt:k<ps.length
  ·have HST:=hide (Ik F ps acc k hlt)
   obtain ⟨g,rfl,hg,q0,q1,q2⟩:=HCL.out k hlt
   obtain ⟨b0,b1,b2,b3⟩:=HPS.out ps[k] (List.getElem_mem hlt)
   have d0:=(HB.out.cell (p:=⟨g,k*3,none⟩) hg).trans q0
   have d1:=(HB.out.cell (p:=⟨g,k*3+1,none⟩) hg).trans q1
   have d2:=(HB.out.cell (p:=⟨g,k*3+2,none⟩) hg).trans q2
   have HBR:=hide (dw HB.out HH.out)
   clear q0 q1 q2
   generalize ps[k]=p at *
   obtain ⟨letter,pos,body⟩:=p
   simp only at b0 b1 b2 b3 d0 d1 d2 HST
   have hbs:(Wd.mkS body).size<=10000:=by rw[Wd.bN];exact b3
   have HML:Hid ((Wd.mkS body).data.toList=body):=rfl
   generalize Wd.mkS body=sb at *
   have HB2:Hid ((wr.alloc (.cells #[.int .u8 letter,.int .i64 (pos:Int),.string sb] 176)).heap[b]?=some (.cells (Wd.pgA (.slice (some ⟨g,0,none⟩) ps.length cap) F) 142 (0,0))):=by
    apply hide;rw[heap_alloc_old _ _ (bB HBR.out)];exact HBR.out
   cases hu:Wd.up letter
   ·have HE:Hid (r=match Wd.unfold F body with|some x=>Wd.dR F (ps.drop (k+1)) (acc++[⟨letter==104,x⟩])|none=>.error acc.length):=by
     apply hide;rw[HR.out,HST.out,hu];rfl
    go_wp2_with (go_at_call 111;refine (dN _ _ b0 b1).mono ?_;rw[hu];rintro e w' ⟨rfl,rfl⟩)
    have HN:=hide (heap_alloc_last wr (.cells #[.int .u8 letter,.int .i64 (pos:Int),.string sb] 176))
    have HO2:=hide (HO.out.alloc (.cells #[.int .u8 letter,.int .i64 (pos:Int),.string sb] 176))
    have HB3:Hid (Below w.heap.size w (wr.alloc (.cells #[.int .u8 letter,.int .i64 (pos:Int),.string sb] 176))):=HB.out.alloc HB.out.size _
    generalize wr.alloc (.cells #[.int .u8 letter,.int .i64 (pos:Int),.string sb] 176)=W1 at *
    generalize wr.heap.size=N at *
    have HX:=Dg sb F _ b W1 hbs (fun j=>(HF.out j).1) HB2.out
    rw[HML.out] at HX
    cases hq:Wd.unfold F body with
    | none =>
     rw[hq] at HX HE
     clear hq
     refine HX.mono ?_
     rintro e w2 ⟨hb2,rfl⟩
     have HB4:=hide (HB3.out.trans (hb2.mono HB3.out.size))
     clear hb2 HX
     go_wp2_with fail
     go_ret2
     rw[HE.out]
     exact ⟨HB4.out,rfl⟩
    | some x =>
     rw[hq] at HX HE
     clear hq
     refine HX.mono ?_
     rintro e w2 ⟨hb2,rfl⟩
     have HB4:=hide (HB3.out.trans (hb2.mono HB3.out.size))
     have n0:w2.cell? ⟨N,0,none⟩=some (.int .u8 letter):=aj (dw hb2 HN.out) rfl
     have HO3:Hid (w2.ownsRow w.heap.size 37 2 (.slice (some ⟨g0,0,none⟩) acc.length cp) acc.length (Wd.dV acc)):=HO2.out.kept ⟨hb2.os,hb2.tape,hb2.output,hb2.size,fun q hq _=>hb2.block q hq⟩ (row:=none) (Or.inr (by simp[Value.ownBlock]))
     clear hb2 HX
     have n0':∀o,(w2.alloc o).cell? ⟨N,0,none⟩=some (.int .u8 letter):=fun o=>by rw[World.cell?_alloc_past _ _ _ (World.block_lt_of_cell? w2 _ n0)];exact n0
     go_wp2_with (at_builtin;refine wpList_append_own _ rfl _ _ 32 rfl w.heap.size 37 i0 (.agg #[.bool false,.string ByteArray.empty]) 2 24 Tryz.underlying32 hi hz0 hz1 hz2 rfl (by decide) _ _ _ rfl (HO3.out.alloc _) ⟨_,0,none⟩ 1 1 [.bool (letter==104),.string (Wd.mkS x)] rfl rfl (cell_two_new _ _ _ _) (fun y hy=>by simp at hy;rcases hy with rfl|rfl<;>rfl) (by unfold maxLen;omega) (by omega) (by have:=HB4.out.size;simp;omega) ?_;intro v' w3 hown' hgrow3 hnil3;obtain ⟨g',cap',rfl⟩:=mG hown' (fun e=>by have h9:=(hnil3.1 e).1;cases h9);have HG:=hide hgrow3;have HW:=hide hown';clear hgrow3 hown' hnil3)
     refine ⟨⟨k+1,acc++[⟨letter==104,x⟩],g',cap',by omega,by go_num,by simp;omega,by simp,?_,HE.out,(HB4.out.alloc HB4.out.size _).grown HG.out (by have:=HB4.out.size;simp;omega) (fun q hq=>(HO3.out.lt q hq).1)⟩,by simp[intOf];omega⟩
     rw[Wd.DZ,List.length_append]
     exact HW.out
   ·have HE:Hid (r=Wd.dR F (ps.drop (k+1)) acc):=by
     apply hide;rw[HR.out,HST.out,hu];rfl
    go_wp2_with (go_at_call 111;refine (dN _ _ b0 b1).mono ?_;rw[hu];rintro e w' ⟨rfl,rfl⟩)
    refine ⟨⟨k+1,acc,g0,cp,by omega,by go_num,by omega,rfl,HO.out.alloc _,HE.out,HB.out.alloc HB.out.size _⟩,by simp[intOf];omega⟩
  ·go_wp2
   go_ret2
   rw[HR.out,List.drop_of_length_le (by omega)]
   exact ⟨HB.out,g0,cp,rfl,HO.out⟩
namespace Wd
theorem Kb (l:List UInt8)(b i:Nat)(hl:l.length<=10000)(hb:b<=10000):(partOf l b i).fine:=by
 refine ⟨iL _ _,iD _ _,hb,?_⟩
 simp[partOf];omega
theorem Jg (l:List UInt8)(hl:l.length<=10000)(k:Nat)(hk:k<=10000):(∀p∈(bS l k).ps,p.fine)/\kF (bS l k).F:=by
 induction k with
 | zero=>exact ⟨by simp[bS],fun j=>by simp[bS,fn0]⟩
 | succ k ih =>
  obtain ⟨h1,h2⟩:=ih (by omega)
  have hb:=Bq l k
  simp only[bS,lC]
  split
  ·have hf:=Kb l (bS l k).begin k hl (by omega)
   refine ⟨?_,?_⟩
   ·intro p hp
    simp at hp
    rcases hp with hp|hp
    ·exact h1 p hp
    ·rw[hp];exact hf
   ·intro j
    simp only[fu]
    split
    ·by_cases e:j=((partOf l (bS l k).begin k).letter-65).toNat
     ·simp only[e,if_true];exact ⟨by simp,hf.2.2.2⟩
     ·simp only[e,if_false];exact h2 j
    ·exact h2 j
  ·exact ⟨h1,h2⟩
def aF (l:List UInt8):Except (Int×Int) (List It) :=
 if 240<l.length then .error (1,0)
 else match fault l with
  | some i=>.error (2,(i:Int))
  | none=>match names (split l).F (split l).ps with
   | some i=>.error (3,(i:Int))
   | none=>if left (bJ (split l).F 8)=true then .error (4,0) else match items (bJ (split l).F 8) (split l).ps with
    | .error n=>.error (5,(n:Int))
    | .ok its=>.ok its
theorem uM {l:List UInt8}(h:240<l.length):aF l=.error (1,0):=by simp[aF,h]
theorem uN {l:List UInt8}(h:¬240<l.length){i:Nat}(h1:fault l=some i):aF l=.error (2,(i:Int)):=by simp only[aF,if_neg h,h1]
theorem uO {l:List UInt8}(h:¬240<l.length){i:Nat}(h1:fault l=none)(h2:names (split l).F (split l).ps=some i):aF l=.error (3,(i:Int)):=by simp only[aF,if_neg h,h1,h2]
theorem uH {l:List UInt8}(h:¬240<l.length)(h1:fault l=none)(h2:names (split l).F (split l).ps=none)(h3:left (bJ (split l).F 8)=true):aF l=.error (4,0):=by simp only[aF,if_neg h,h1,h2,if_pos h3]
theorem uX {l:List UInt8}(h:¬240<l.length)(h1:fault l=none)(h2:names (split l).F (split l).ps=none)(h3:left (bJ (split l).F 8)=false){n:Nat}(h4:items (bJ (split l).F 8) (split l).ps=.error n):aF l=.error (5,(n:Int)):=by simp[aF,if_neg h,h1,h2,h3,h4]
theorem vo {l:List UInt8}(h:¬240<l.length)(h1:fault l=none)(h2:names (split l).F (split l).ps=none)(h3:left (bJ (split l).F 8)=false){its:List It}(h4:items (bJ (split l).F 8) (split l).ps=.ok its):aF l=.ok its:=by simp[aF,if_neg h,h1,h2,h3,h4]
def jQ (l:List UInt8):Int×Int:=match aF l with
 | .ok _=>(0,0)
 | .error x=>x
end Wd
def PS (w:World)(r:Except (Int×Int) (List Wd.It))(e:Ending)(w':World):Prop :=
 Below w.heap.size w w'/\(match r with
  | .ok its=>∃g cap,e=.returned (.tuple #[.slice (some ⟨g,0,none⟩) its.length cap,.int .i64 0,.int .i64 0])/\w'.ownsRow w.heap.size 37 2 (.slice (some ⟨g,0,none⟩) its.length cap) its.length (Wd.dV its)
  | .error x=>e=.returned (.tuple #[.slice none 0 0,.int .i64 x.1,.int .i64 x.2]))
theorem own_below {w w':World}{base:Nat}{e:TypeId}{size:Nat}{v:Value}{n:Nat}{xs:List Value}(h:w.ownsRow base e size v n xs)(hb:Below w.heap.size w w'):w'.ownsRow base e size v n xs :=
 h.kept ⟨hb.os,hb.tape,hb.output,hb.size,fun q hq _=>hb.block q hq⟩ (row:=none) (by cases hv:v.ownBlock<;>simp)
theorem EA (s:ByteArray)(w:World)(hs:s.size<=maxLen) :
  Calls Tryz.prog 51 #[.string s] w (PS w (Wd.aF s.data.toList)):=by
 unfold maxLen at hs
 by_cases hbig:240<s.size
 ·rw[Wd.uM (l:=s.data.toList) (by rw[Wd.aI];exact hbig)]
  go_enter Tryz.func51,Tryz.ntmps51
  go_wp2
  go_ret3
  exact ⟨Below.refl _ _,rfl⟩
 ·have hl:¬240<s.data.toList.length:=by rw[Wd.aI];exact hbig
  have HL:=hide hl
  clear hl
  have HR:Hid (∀x,Wd.aF s.data.toList=x->Wd.aF s.data.toList=x):=fun _ h=>h
  generalize hr:Wd.aF s.data.toList=r at HR ⊢
  have HRR:=hide hr
  clear HR hr
  go_enter Tryz.func51,Tryz.ntmps51
  go_wp2_with fail
  refine (H7 s _ (by omega)).mono ?_
  cases hp:Wd.fault s.data.toList with
  | some i =>
   rintro e w1 ⟨rfl,hb1⟩
   have HB1:=hide hb1
   have HC:=hide (Wd.uN HL.out hp)
   have hne:((i:Int) != -1)=true:=by rw[bne_iff_ne];omega
   clear hb1 hp
   simp only[Wd.toInt]
   go_wp2_with fail
   go_ret3
   rw[<-HRR.out,HC.out]
   exact ⟨HB1.out,rfl⟩
  | none =>
   rintro e w1 ⟨rfl,hb1⟩
   have HB1:=hide hb1
   have HP1:=hide hp
   clear hb1 hp
   simp only[Wd.toInt]
   go_wp2_with fail
   refine (NG s _ (by omega)).mono ?_
   rintro e w2 ⟨v,rfl,hown2,hb2⟩
   have HB2:=hide (HB1.out.trans (hb2.mono HB1.out.size))
   have HO2:=hide hown2
   clear hb2 hown2 HB1
   obtain ⟨ao,cap,hv⟩:∃ao cap,v=.slice ao (Wd.split s.data.toList).ps.length cap:=by
    rcases HO2.out.2 with ⟨h1,h2⟩ | ⟨g,cap,cur,h1,_⟩
    ·exact ⟨none,0,by rw[h1,h2]⟩
    ·exact ⟨_,_,h1⟩
   have HV:=hide hv
   clear hv
   obtain ⟨hpf,hff⟩:=Wd.Jg s.data.toList (by rw[Wd.aI];omega) s.data.toList.length (by rw[Wd.aI];omega)
   have hpl:=Wd.Cm s.data.toList s.data.toList.length
   rw[show Wd.bS s.data.toList s.data.toList.length=Wd.split s.data.toList from rfl] at hpf hff hpl
   rw[Wd.aI] at hpl
   have HPF:=hide hpf
   have HFF:=hide hff
   clear hpf hff
   go_wp2_with (first|(refine Be rfl rfl ?_)|(refine wpList_store_row rfl 142 _ _ rfl _ _ rfl rfl 142 _ (heap_alloc_last _ _) Tryz.i55 rfl (by rw[HV.out];exact zi _ _ _ _) ?_))
   have HPG:Hid (PgR ((w2.alloc (.cells (Wd.pgA (.slice none 0 0) fun _=>Wd.fn0) 142)).setRow w2.heap.size (Wd.pgA v (Wd.split s.data.toList).F)) w2.heap.size (Wd.split s.data.toList).ps (Wd.split s.data.toList).F):=by
    refine ⟨v,setRow_heap _ _ _ _ _ _ (heap_alloc_last _ _),?_,fun g hg=>(HO2.out.lt g hg).2⟩
    obtain ⟨a1,a2⟩:=HO2.out
    refine ⟨a1,?_⟩
    rcases a2 with a2 | ⟨g,cap,cur,hv,hg,hh,r⟩
    ·exact .inl a2
    ·have:=bB hh
     exact .inr ⟨g,cap,cur,hv,Nat.zero_le _,by rw[setRow_other _ _ _ _ (by omega),heap_alloc_old _ _ this];exact hh,r⟩
   have HB3:Hid (Below w.heap.size w ((w2.alloc (.cells (Wd.pgA (.slice none 0 0) fun _=>Wd.fn0) 142)).setRow w2.heap.size (Wd.pgA v (Wd.split s.data.toList).F))) :=
    below_setRow (HB2.out.alloc HB2.out.size _) HB2.out.size _
   have hwb:w.heap.size<=w2.heap.size:=HB2.out.size
   generalize (w2.alloc (.cells (Wd.pgA (.slice none 0 0) fun _=>Wd.fn0) 142)).setRow w2.heap.size (Wd.pgA v (Wd.split s.data.toList).F)=W at *
   generalize w2.heap.size=b at *
   refine (H6 _ _ b W HPF.out (by omega) HPG.out).mono ?_
   cases hp:Wd.names (Wd.split s.data.toList).F (Wd.split s.data.toList).ps with
   | some i =>
    rintro e w3 ⟨rfl,hb3⟩
    have HB4:=hide (HB3.out.trans (hb3.mono HB3.out.size))
    have HC:=hide (Wd.uO HL.out HP1.out hp)
    have hne:((i:Int) != -1)=true:=by rw[bne_iff_ne];omega
    clear hb3 hp
    simp only[Wd.toInt]
    go_wp2_with fail
    go_ret3
    rw[<-HRR.out,HC.out]
    exact ⟨HB4.out,rfl⟩
   | none =>
    rintro e w3 ⟨rfl,hb3⟩
    have HB4:=hide (HB3.out.trans (hb3.mono HB3.out.size))
    have Uc:=hide (HPG.out.below hb3)
    have HP2:=hide hp
    clear hb3 hp HB3 HPG
    simp only[Wd.toInt]
    go_wp2_with fail
    refine (Hz _ _ b w3 HFF.out Uc.out).mono ?_
    cases hp:Wd.left (Wd.bJ (Wd.split s.data.toList).F 8) with
    | true =>
     rintro e w4 ⟨rfl,hp4,hb4⟩
     have HB5:=hide (HB4.out.trans (hb4.mono hwb))
     have HC:=hide (Wd.uH HL.out HP1.out HP2.out hp)
     clear hb4 hp hp4
     go_wp2_with fail
     go_ret3
     rw[<-HRR.out,HC.out]
     exact ⟨HB5.out,rfl⟩
    | false =>
     rintro e w4 ⟨rfl,hp4,hb4⟩
     have HB5:=hide (HB4.out.trans (hb4.mono hwb))
     have Ud:=hide hp4
     have HP3:=hide hp
     clear hb4 hp hp4
     go_wp2_with fail
     have HX:=H9 _ _ b w4 HPF.out (by omega) (Wd.Bt HFF.out 8) Ud.out
     cases hq:Wd.items (Wd.bJ (Wd.split s.data.toList).F 8) (Wd.split s.data.toList).ps with
     | error n =>
      rw[hq] at HX
      have HC:=hide (Wd.uX HL.out HP1.out HP2.out HP3.out hq)
      have hne:((n:Int) != -1)=true:=by rw[bne_iff_ne];omega
      clear hq
      refine HX.mono ?_
      rintro e w5 ⟨hb5,rfl⟩
      have HB6:=hide (HB5.out.trans (hb5.mono HB5.out.size))
      clear hb5 HX
      go_wp2_with fail
      go_ret3
      rw[<-HRR.out,HC.out]
      exact ⟨HB6.out,rfl⟩
     | ok its =>
      rw[hq] at HX
      have HC:=hide (Wd.vo HL.out HP1.out HP2.out HP3.out hq)
      clear hq
      refine HX.mono ?_
      rintro e w5 ⟨hb5,g,cp,rfl,hown⟩
      have HB6:=hide (HB5.out.trans (hb5.mono HB5.out.size))
      have HO6:=hide (iH hown HB5.out.size)
      clear hb5 hown HX
      go_wp2_with fail
      go_ret3
      rw[<-HRR.out,HC.out]
      exact ⟨HB6.out,g,cp,rfl,HO6.out⟩
theorem Ia (s:ByteArray)(w:World)(hs:s.size<=maxLen) :
  Calls Tryz.prog 26 #[.string s] w fun e w'=>e=.returned (.tuple #[.int .i64 (Wd.jQ s.data.toList).1,.int .i64 (Wd.jQ s.data.toList).2])/\Below w.heap.size w w':=by
 have HX:=EA s w hs
 unfold Wd.jQ
 cases hq:Wd.aF s.data.toList with
 | error x =>
  rw[hq] at HX
  have HXX:=hide HX
  clear HX hq
  go_enter Tryz.func26,Tryz.ntmps26
  go_wp2_with (go_at_call 51;refine HXX.out.mono ?_;rintro e w' ⟨hb,rfl⟩)
  go_ret2
  exact ⟨rfl,hb⟩
 | ok its =>
  rw[hq] at HX
  have HXX:=hide HX
  clear HX hq
  go_enter Tryz.func26,Tryz.ntmps26
  go_wp2_with (go_at_call 51;refine HXX.out.mono ?_;rintro e w' ⟨hb,g,cp,rfl,hown⟩)
  go_ret2
  exact ⟨rfl,hb⟩
theorem NJ (s:ByteArray)(w:World)(hs:s.size<=maxLen) :
  Calls Tryz.prog 11 #[.string s] w fun e w'=>e=.returned (.tuple #[.int .i64 (Wd.jQ s.data.toList).1,.int .i64 (Wd.jQ s.data.toList).2])/\Below w.heap.size w w':=by
 go_enter Tryz.func11,Tryz.ntmps11
 go_wp2_with (go_at_call 26;refine (Ia _ _ hs).mono ?_;rintro e w' ⟨rfl,hb⟩)
 go_ret2
 exact ⟨rfl,hb⟩
namespace Wd
def Rel (p r:St):Prop:=p.want=r.want/\p.items=r.items/\(∀c∈p.op,bt c=40\/bt c=91\/bt c=124) /\
 (((p.want=0\/p.want=1)/\p.op=[])\/((p.want=2\/p.want=3\/p.want=4)/\r.op=123::p.op))
theorem at_mem {l:List UInt8}{i:Nat}(h:i<l.length):∃c∈l,at_ l i=bt c:=by
 refine ⟨l[i],List.getElem_mem h,?_⟩
 simp[at_,bt,h]
theorem Cn (a:UInt8)(o:List UInt8)(d:Int)(h:o≠[]):fT (a::o) d=(at_ o (o.length-1)==d):=by
 cases o with
 | nil=>exact absurd rfl h
 | cons b r=>simp[fT,at_]
theorem xh (a:UInt8)(o:List UInt8)(h:o≠[]):(a::o).take ((a::o).length-1)=a::o.take (o.length-1):=by
 cases o with
 | nil=>exact absurd rfl h
 | cons b r=>simp
theorem PU (o:List UInt8)(items:Nat)(hop:∀c∈o,bt c=40\/bt c=91\/bt c=124)(c:Int) :
  (aN ⟨2,o,items⟩ c=none/\opened c (123::o)=none) \/
  ∃(w:Int) (o1 o2:List UInt8),aN ⟨2,o,items⟩ c=some ⟨w,o1,items⟩/\opened c (123::o)=some (w,o2)/\(∀c∈o1,bt c=40\/bt c=91\/bt c=124)/\((w=0/\o1=[])\/((w=2\/w=3\/w=4)/\o2=123::o1)):=by
 unfold aN opened
 simp only
 by_cases b1:c=43\/c=45
 ·right;exact ⟨3,o,_,by rw[if_pos b1],by rw[if_pos b1],hop,by simp⟩
 rw[if_neg b1,if_neg b1]
 by_cases b2:c=114\/c=119
 ·right;exact ⟨4,o,_,by rw[if_pos b2],by rw[if_pos b2],hop,by simp⟩
 rw[if_neg b2,if_neg b2]
 by_cases b3:c=60\/c=62\/c=122
 ·right;exact ⟨2,o,_,by rw[if_pos b3],by rw[if_pos (by rcases b3 with h|h|h<;>simp[h])],hop,by simp⟩
 rw[if_neg b3]
 by_cases bu:up c=true
 ·right
  have hu:=bu
  simp[up] at hu
  refine ⟨2,o,_,?_,by rw[if_pos (by simp[bu])],hop,by simp⟩
  rw[if_neg (by omega),if_neg (by omega),if_neg (by omega),if_neg (by omega),if_neg (by omega),if_neg (by omega),if_pos bu]
 have b3':¬(c=60\/c=62\/c=122\/up c=true):=by
  rintro (h|h|h|h)
  ·exact b3 (Or.inl h)
  ·exact b3 (Or.inr (Or.inl h))
  ·exact b3 (Or.inr (Or.inr h))
  ·exact bu h
 rw[if_neg b3']
 by_cases b4:c=40
 ·right;refine ⟨2,o++[40],_,by rw[if_pos b4],by rw[if_pos b4],?_,by simp⟩
  intro x hx;simp at hx;rcases hx with hx|hx
  ·exact hop x hx
  ·subst hx;left;rfl
 rw[if_neg b4,if_neg b4]
 by_cases b5:c=91
 ·right;refine ⟨2,o++[91],_,by rw[if_pos b5],by rw[if_pos b5],?_,by simp⟩
  intro x hx;simp at hx;rcases hx with hx|hx
  ·exact hop x hx
  ·subst hx;right;left;rfl
 rw[if_neg b5,if_neg b5]
 have hsub:∀n,∀x∈o.take n,bt x=40\/bt x=91\/bt x=124:=fun n x hx=>hop x (List.mem_of_mem_take hx)
 have Ue:o≠[]->at_ o (o.length-1)≠123:=by
  intro ho hh
  have hl:o.length-1<o.length:=by have:=List.length_pos_iff.2 ho;omega
  obtain ⟨x,hx,e⟩:=at_mem hl
  rw[e] at hh
  have:=hop x hx
  omega
 have hsh:∀d:Int,d≠123->fT (123::o) d=(shut o d).isSome:=by
  intro d hd
  by_cases ho:o=[]
  ·subst ho;simp[fT,shut,at_];intro h;exact hd h.symm
  ·rw[Cn _ _ _ ho]
   have:=List.length_pos_iff.2 ho
   simp only[shut]
   by_cases hq:at_ o (o.length-1)=d
   ·simp[hq,this]
   ·simp[hq]
 have zY:∀d x,shut o d=some x->o≠[]/\x=o.take (o.length-1):=by
  intro d x hx
  simp only[shut] at hx
  split at hx
  ·next h=>cases hx;exact ⟨List.length_pos_iff.1 h.1,rfl⟩
  ·cases hx
 by_cases b6:c=124
 ·subst b6
  simp only[if_true,true_and]
  cases hq:shut o 40 with
  | none=>left;simp[hsh 40 (by decide),hq]
  | some x =>
   obtain ⟨ho,rfl⟩:=zY 40 x hq
   right
   refine ⟨2,o.take (o.length-1)++[124],(123::o).take ((123::o).length-1)++[124],rfl,by simp[hsh 40 (by decide),hq],?_,Or.inr ⟨Or.inl rfl,by rw[xh _ _ ho];rfl⟩⟩
   intro y hy;simp only[List.mem_append,List.mem_singleton] at hy;rcases hy with hy|hy
   ·exact hsub _ y hy
   ·subst hy;right;right;rfl
 rw[if_neg b6,if_neg (show ¬(c=124/\fT (123::o) 40=true) from fun h=>b6 h.1)]
 by_cases b7:c=41
 ·subst b7
  simp only[if_true,true_and]
  cases hq:shut o 124 with
  | none=>left;simp[hsh 124 (by decide),hq]
  | some x =>
   obtain ⟨ho,rfl⟩:=zY 124 x hq
   right
   exact ⟨2,o.take (o.length-1),(123::o).take ((123::o).length-1),rfl,by simp[hsh 124 (by decide),hq],hsub _,Or.inr ⟨Or.inl rfl,xh _ _ ho⟩⟩
 rw[if_neg b7,if_neg (show ¬(c=41/\fT (123::o) 124=true) from fun h=>b7 h.1)]
 by_cases b8:c=93
 ·subst b8
  simp only[if_true,true_and]
  cases hq:shut o 91 with
  | none=>left;simp[hsh 91 (by decide),hq]
  | some x =>
   obtain ⟨ho,rfl⟩:=zY 91 x hq
   right
   exact ⟨2,o.take (o.length-1),(123::o).take ((123::o).length-1),rfl,by simp[hsh 91 (by decide),hq],hsub _,Or.inr ⟨Or.inl rfl,xh _ _ ho⟩⟩
 rw[if_neg b8,if_neg (show ¬(c=93/\fT (123::o) 91=true) from fun h=>b8 h.1)]
 by_cases b9:c=125
 ·subst b9
  simp only[if_true,true_and]
  by_cases ho:o=[]
  ·subst ho
   right
   exact ⟨0,[],[],rfl,by simp[fT,at_],by simp,Or.inl ⟨rfl,rfl⟩⟩
  ·left
   have:=List.length_pos_iff.2 ho
   refine ⟨by rw[if_neg (by omega)],?_⟩
   rw[Cn _ _ _ ho,if_neg]
   simpa using Ue ho
 ·rw[if_neg b9,if_neg (show ¬(c=125/\fT (123::o) 123=true) from fun h=>b9 h.1)]
  left
  exact ⟨by rw[if_neg bu],rfl⟩
theorem PV {p r:St}(h:Rel p r)(c:Int):(aR p c=none/\gB r c=none)\/∃p' r',aR p c=some p'/\gB r c=some r'/\Rel p' r':=by
 obtain ⟨want,o,items⟩:=p
 obtain ⟨U6,o2,U5⟩:=r
 obtain ⟨h1,h2,h3,h4⟩:=h
 simp only at h1 h2 h3 h4
 subst h1 h2
 unfold aR gB
 simp only
 by_cases w0:want=0
 ·rw[if_pos w0,if_pos w0]
  by_cases hc:items<8/\(c=116\/c=104\/up c=true)
  ·right
   refine ⟨⟨1,o,items+1⟩,⟨1,o2,items+1⟩,by rw[if_pos hc],by rw[if_pos hc],rfl,rfl,h3,Or.inl ⟨Or.inr rfl,?_⟩⟩
   rcases h4 with h4|h4
   ·exact h4.2
   ·omega
  ·left;exact ⟨by rw[if_neg hc],by rw[if_neg hc]⟩
 rw[if_neg w0,if_neg w0]
 by_cases w1:want=1
 ·rw[if_pos w1,if_pos w1]
  have ho:o=[]:=by
   rcases h4 with h4|h4
   ·exact h4.2
   ·omega
  by_cases hc:c=123
  ·right
   refine ⟨⟨2,o,items⟩,⟨2,[123],items⟩,by rw[if_pos hc],by rw[if_pos hc],rfl,rfl,h3,Or.inr ⟨Or.inl rfl,by rw[ho]⟩⟩
  ·left;exact ⟨by rw[if_neg hc],by rw[if_neg hc]⟩
 rw[if_neg w1,if_neg w1]
 have h5:(want=2\/want=3\/want=4)/\o2=123::o:=by
  rcases h4 with h4|h4
  ·omega
  ·exact h4
 by_cases w3:want=3
 ·rw[if_pos w3,if_pos w3]
  by_cases hc:lk c=true
  ·right;exact ⟨⟨2,o,items⟩,⟨2,o2,items⟩,by rw[if_pos hc],by rw[if_pos hc],rfl,rfl,h3,Or.inr ⟨Or.inl rfl,h5.2⟩⟩
  ·left;exact ⟨by rw[if_neg hc],by rw[if_neg hc]⟩
 rw[if_neg w3,if_neg w3]
 by_cases w4:want=4
 ·rw[if_pos w4,if_pos w4]
  by_cases hc:cl c=true
  ·right;exact ⟨⟨2,o,items⟩,⟨2,o2,items⟩,by rw[if_pos hc],by rw[if_pos hc],rfl,rfl,h3,Or.inr ⟨Or.inl rfl,h5.2⟩⟩
  ·left;exact ⟨by rw[if_neg hc],by rw[if_neg hc]⟩
 rw[if_neg w4,if_neg w4]
 have w2:want=2:=by omega
 subst w2
 rw[h5.2]
 rcases PU o items h3 c with ⟨e1,e2⟩ | ⟨w,o1,o3,e1,e2,e3,e4⟩
 ·left;exact ⟨e1,by rw[e2]⟩
 ·right
  refine ⟨⟨w,o1,items⟩,⟨w,o3,items⟩,e1,by rw[e2],rfl,rfl,e3,?_⟩
  rcases e4 with ⟨e4,e5⟩|e4
  ·exact Or.inl ⟨Or.inl e4,e5⟩
  ·exact Or.inr e4
theorem NK (l:List UInt8)(i:Nat)(p r:St)(h:Rel p r):iU l i p=jM l i r:=by
 induction l generalizing i p r with
 | nil=>simp only[iU,jM,h.1,h.2.1]
 | cons c t ih =>
  simp only[iU,jM]
  rcases PV h (bt c) with ⟨e1,e2⟩ | ⟨p',r',e1,e2,h'⟩
  ·rw[e1,e2]
  ·rw[e1,e2];exact ih _ _ _ h'
theorem Dh (l:List UInt8):fault l=place l:=NK l 0 _ _ ⟨rfl,rfl,by simp,Or.inl ⟨Or.inl rfl,rfl⟩⟩
end Wd
end Go.Proofs.YtecmfdkhcffpmaaGreat
