/- SrcA, SrcB. -/
import Derived.Test.YtecmfdkhcffpmaaGreatB03
namespace Go.Proofs.YtecmfdkhcffpmaaGreat
open Go.RowKit
set_option linter.unusedVariables false
set_option linter.unusedSimpArgs false
set_option linter.unusedSectionVars false
set_option maxHeartbeats 8000000
set_option maxRecDepth 100000
def Sc (w:World)(b:Nat)(st:Wd.St):Prop:=∃v,w.heap[b]?=some (.cells #[.int .i64 st.want,.int .i64 st.items,v] 173 (0,0))/\w.ownsRow (b+1) 5 1 v st.op.length (Wd.aZ st.op)
theorem Sc.want {w:World}{b:Nat}{st:Wd.St}(h:Sc w b st)(x:Int):Sc (w.setCell ⟨b,0,none⟩ (.int .i64 x)) b ⟨x,st.op,st.items⟩:=by
 obtain ⟨v,h1,h2⟩:=h
 exact ⟨v,by rw[heap_setCell_same _ _ _ _ _ _ h1];rfl,ownsRow_setCell_below h2 (by simp) _⟩
theorem Sc.items {w:World}{b:Nat}{st:Wd.St}(h:Sc w b st)(x:Nat):Sc (w.setCell ⟨b,1,none⟩ (.int .i64 (x:Int))) b ⟨st.want,st.op,x⟩:=by
 obtain ⟨v,h1,h2⟩:=h
 exact ⟨v,by rw[heap_setCell_same _ _ _ _ _ _ h1];rfl,ownsRow_setCell_below h2 (by simp) _⟩
theorem Sc.vK {w:World}{b:Nat}{st:Wd.St}{v v':Value}{o:List UInt8}(h1:w.heap[b]?=some (.cells #[.int .i64 st.want,.int .i64 st.items,v] 173 (0,0)))(h2:w.ownsRow (b+1) 5 1 v' o.length (Wd.aZ o)):Sc (w.setCell ⟨b,2,none⟩ v') b ⟨st.want,o,st.items⟩ :=
 ⟨v',by rw[heap_setCell_same _ _ _ _ _ _ h1];rfl,ownsRow_setCell_below h2 (by simp) _⟩
theorem Sc.draw {w:World}{b:Nat}{st:Wd.St}(h:Sc w b st):Sc w.drew b st:=h
theorem Sc.lt {w:World}{b:Nat}{st:Wd.St}(h:Sc w b st):b<w.heap.size:=by
 obtain ⟨v,h1,h2⟩:=h;exact bB h1
theorem bE {b o:Nat}{w0 w:World}(h:Below b w0 w)(v:Value):Below b w0 (w.setCell ⟨b,o,none⟩ v):=h.setCell (p:=⟨b,o,none⟩) (Nat.le_refl _) v
def fG (w:World)(b:Nat)(r:Option Wd.St)(e:Ending)(w':World):Prop :=
 Below b w w'/\(match r with|some st'=>e=.returned (.bool true)/\Sc w' b st'|none=>e=.returned (.bool false))
theorem Jf (c:Int)(w:World)(b:Nat)(st:Wd.St)(hw:st.want=0)(hi:st.items<=8)(h0:0<=c)(h1:c<=255)(hsc:Sc w b st) :
  Calls Tryz.prog 133 #[.pointer (some ⟨b,0,none⟩),.int .u8 c] w (fG w b (Wd.aR st c)):=by
 obtain ⟨want,op,items⟩:=st
 simp only at hw hi
 subst hw
 obtain ⟨v,hh,hown⟩:=id hsc
 have c0:=aj (j:=0) hh rfl
 have c1:=aj (j:=1) hh rfl
 have f0:=frozen_of_row _ b 0 _ _ hh
 have f1:=frozen_of_row _ b 1 _ _ hh
 simp only at c0 c1
 have HS:=hide hsc
 clear hh hown hsc
 by_cases h8:items<8
 ·cases ht:(c==116)
  ·cases h4:(c==104)
   ·cases hu:Wd.up c
    ·have e:Hid (Wd.aR ⟨0,op,items⟩ c=none):=by simp at ht h4;simp[Hid,Wd.aR,ht,h4,hu]
     go_enter Tryz.func133,Tryz.ntmps133
     go_wp2_with (go_at_call 111;refine (dN _ _ h0 h1).mono ?_;rintro e w' ⟨rfl,rfl⟩)
     go_ret
     rw[e.out]
     exact ⟨bE (bE (Below.refl _ _) _) _,rfl⟩
    ·have e:Hid (Wd.aR ⟨0,op,items⟩ c=some ⟨1,op,items+1⟩):=by simp[Hid,Wd.aR,h8,hu]
     go_enter Tryz.func133,Tryz.ntmps133
     go_wp2_with (go_at_call 111;refine (dN _ _ h0 h1).mono ?_;rintro e w' ⟨rfl,rfl⟩)
     go_ret
     rw[e.out]
     exact ⟨bE (bE (Below.refl _ _) _) _,rfl,(HS.out.items (items+1)).want 1⟩
   ·have e:Hid (Wd.aR ⟨0,op,items⟩ c=some ⟨1,op,items+1⟩):=by simp at h4;simp[Hid,Wd.aR,h8,h4]
    go_enter Tryz.func133,Tryz.ntmps133
    go_wp2_with (go_at_call 111;refine (dN _ _ h0 h1).mono ?_;rintro e w' ⟨rfl,rfl⟩)
    go_ret
    rw[e.out]
    exact ⟨bE (bE (Below.refl _ _) _) _,rfl,(HS.out.items (items+1)).want 1⟩
  ·have e:Hid (Wd.aR ⟨0,op,items⟩ c=some ⟨1,op,items+1⟩):=by simp at ht;simp[Hid,Wd.aR,h8,ht]
   go_enter Tryz.func133,Tryz.ntmps133
   go_wp2_with (go_at_call 111;refine (dN _ _ h0 h1).mono ?_;rintro e w' ⟨rfl,rfl⟩)
   go_ret
   rw[e.out]
   exact ⟨bE (bE (Below.refl _ _) _) _,rfl,(HS.out.items (items+1)).want 1⟩
 ·have e:Hid (Wd.aR ⟨0,op,items⟩ c=none):=by simp[Hid,Wd.aR,h8]
  go_enter Tryz.func133,Tryz.ntmps133
  go_wp2
  go_ret
  rw[e.out]
  exact ⟨Below.refl _ _,rfl⟩
theorem rW {w:World}{base:Nat}{e:TypeId}{v:Value}{m:Nat}{xs:List Value}(h:w.ownsRow base e 1 v (m+1) xs) :
  ∃g cap,v=.slice (some ⟨g,0,none⟩) (m+1) cap/\base<=g/\g<w.heap.size/\m+1<=cap/\cap<=maxLen/\(∀j,j<m+1->w.cell? ⟨g,j,none⟩=xs[j]?):=by
 obtain ⟨hl,h2⟩:=id h
 rcases h2 with ⟨_,h0⟩ | ⟨g,cap,cur,rfl,hg,hh,hn,hm,hs,ht⟩
 ·omega
 ·exact ⟨g,cap,rfl,hg,bB hh,hn,hm,fun j hj=>h.cellAt j (by omega)⟩
theorem ND {w:World}{base g cap m:Nat}{o:List UInt8}(hm:o.length=m+1)(h:w.ownsRow base 5 1 (.slice (some ⟨g,0,none⟩) (m+1) cap) (m+1) (Wd.aZ o)) :
  w.ownsRow base 5 1 (.slice (some ⟨g,0,none⟩) m cap) (o.take m).length (Wd.aZ (o.take m)):=by
 have e:(o.take m).length=m:=by simp;omega
 rw[e]
 apply ownsRow_pop (last:=Wd.aZ (o.drop m))
 ·rw[Wd.Lj,e];omega
 ·have:Wd.aZ (o.take m)++Wd.aZ (o.drop m)=Wd.aZ o:=by rw[Wd.aZ,Wd.aZ,<-List.map_append,List.take_append_drop];rfl
  rw[this];exact h
def SB (w:World)(b:Nat)(st:Wd.St)(r:Option (List UInt8))(e:Ending)(w':World):Prop :=
 match r with
 | some o=>e=.returned (.bool true)/\Sc w' b ⟨st.want,o,st.items⟩/\Below b w w'
 | none=>e=.returned (.bool false)/\w'=w
theorem yS (c:Int)(w:World)(b:Nat)(st:Wd.St)(h0:0<=c)(h1:c<=255)(hsc:Sc w b st) :
  Calls Tryz.prog 147 #[.pointer (some ⟨b,0,none⟩),.int .u8 c] w (SB w b st (Wd.shut st.op c)):=by
 obtain ⟨want,op,items⟩:=st
 obtain ⟨v,hh,hown⟩:=id hsc
 simp only at hh hown
 cases hlen:op.length with
 | zero =>
  have e:Hid (Wd.shut op c=none):=by simp[Hid,Wd.shut,hlen]
  rw[hlen] at hown
  obtain ⟨ao,cap,rfl,hnc,hcap,_,_⟩:=rE hown
  have c2:=aj (j:=2) hh rfl
  clear hh hown hsc
  go_enter Tryz.func147,Tryz.ntmps147
  go_wp2
  go_ret
  rw[e.out]
  exact ⟨rfl,rfl⟩
 | succ m =>
  rw[hlen] at hown
  obtain ⟨g,cap,rfl,hbg,hgs,hnc,hcap,hcells⟩:=rW hown
  have c2:=aj (j:=2) hh rfl
  have f2:=frozen_of_row _ b 2 _ _ hh
  have cm:=(hcells m (by omega)).trans (Wd.NC op m (by omega))
  have b0:=Wd.iL op m
  have b1:=Wd.iD op m
  have HL:=hide hlen
  have HH:=hide hh
  have HO:=hide hown
  unfold maxLen at hcap
  clear hh hown hsc hcells hlen
  have HX:=hide (show Wd.at_ op m=Wd.at_ op m from rfl)
  have e:Hid (Wd.shut op c=if Wd.at_ op m=c then some (op.take m) else none):=by simp[Hid,Wd.shut,HL.out]
  generalize Wd.at_ op m=x at *
  clear HX
  cases hc:(x != c)
  ·have hxc:x=c:=by simpa using hc
   have E:Hid (Wd.shut op c=some (op.take m)):=by rw[e.out,if_pos hxc];rfl
   clear e hxc
   go_enter Tryz.func147,Tryz.ntmps147
   go_wp2
   go_ret
   rw[E.out]
   exact ⟨rfl,Sc.vK (st:=⟨want,op,items⟩) HH.out (ND HL.out HO.out),bE (Below.refl _ _) _⟩
  ·have hxc:¬x=c:=by simpa using hc
   have E:Hid (Wd.shut op c=none):=by rw[e.out,if_neg hxc];rfl
   clear e hxc
   go_enter Tryz.func147,Tryz.ntmps147
   go_wp2
   go_ret
   rw[E.out]
   exact ⟨rfl,rfl⟩
theorem Tryz.info5:(Tryz.prog.info? 5).map (fun i=>(i.zero,i.size,i.bytes))=some (some (.int .u8 0),1,1):=by kernel_rfl
theorem kg {w w3:World}{b:Nat}{v:Value}{n:Nat}{xs:List Value}{ob o:Obj}(hown:w.ownsRow (b+1) 5 1 v n xs)(hg:(w.alloc ob).grownBy w3 v.ownBlock)(hh:w.heap[b]?=some o):w3.heap[b]?=some o:=by
 have hlt:=bB hh
 rw[hg.block b (by simp;omega) (fun e=>by have:=(hown.lt b e.symm).1;omega),heap_alloc_old _ _ hlt]
 exact hh
theorem uG {w w3:World}{b:Nat}{v:Value}{n:Nat}{xs:List Value}{ob:Obj}(hown:w.ownsRow (b+1) 5 1 v n xs)(hg:(w.alloc ob).grownBy w3 v.ownBlock)(hb:b<w.heap.size):Below b w w3 :=
 ((Below.refl b w).alloc (by omega) ob).grown hg (by simp;omega) (fun k hk=>by have:=(hown.lt k hk).1;omega)
theorem Ll (w:World)(b:Nat)(st:Wd.St)(hol:st.op.length<=10000)(hsc:Sc w b st) :
  Calls Tryz.prog 134 #[.pointer (some ⟨b,0,none⟩),.int .u8 43] w (fG w b (Wd.aN st 43)):=by
 obtain ⟨want,op,items⟩:=st
 obtain ⟨v,hh,hown⟩:=id hsc
 simp only at hh hown hol
 have c0:=aj (j:=0) hh rfl
 have c2:=aj (j:=2) hh rfl
 have f0:=frozen_of_row _ b 0 _ _ hh
 have f2:=frozen_of_row _ b 2 _ _ hh
 have HS:=hide hsc
 have HH:=hide hh
 have HO:=hide hown
 clear hh hown hsc
 have e:Wd.aN ⟨want,op,items⟩ 43=some ⟨3,op,items⟩:=by simp[Wd.aN]
 rw[e]
 clear e
 go_enter Tryz.func134,Tryz.ntmps134
 go_wp2
 go_ret
 exact ⟨bE (Below.refl _ _) _,rfl,HS.out.want 3⟩
theorem Lm (w:World)(b:Nat)(st:Wd.St)(hol:st.op.length<=10000)(hsc:Sc w b st) :
  Calls Tryz.prog 134 #[.pointer (some ⟨b,0,none⟩),.int .u8 45] w (fG w b (Wd.aN st 45)):=by
 obtain ⟨want,op,items⟩:=st
 obtain ⟨v,hh,hown⟩:=id hsc
 simp only at hh hown hol
 have c0:=aj (j:=0) hh rfl
 have c2:=aj (j:=2) hh rfl
 have f0:=frozen_of_row _ b 0 _ _ hh
 have f2:=frozen_of_row _ b 2 _ _ hh
 have HS:=hide hsc
 have HH:=hide hh
 have HO:=hide hown
 clear hh hown hsc
 have e:Wd.aN ⟨want,op,items⟩ 45=some ⟨3,op,items⟩:=by simp[Wd.aN]
 rw[e]
 clear e
 go_enter Tryz.func134,Tryz.ntmps134
 go_wp2
 go_ret
 exact ⟨bE (Below.refl _ _) _,rfl,HS.out.want 3⟩
theorem JX (w:World)(b:Nat)(st:Wd.St)(hol:st.op.length<=10000)(hsc:Sc w b st) :
  Calls Tryz.prog 134 #[.pointer (some ⟨b,0,none⟩),.int .u8 114] w (fG w b (Wd.aN st 114)):=by
 obtain ⟨want,op,items⟩:=st
 obtain ⟨v,hh,hown⟩:=id hsc
 simp only at hh hown hol
 have c0:=aj (j:=0) hh rfl
 have c2:=aj (j:=2) hh rfl
 have f0:=frozen_of_row _ b 0 _ _ hh
 have f2:=frozen_of_row _ b 2 _ _ hh
 have HS:=hide hsc
 have HH:=hide hh
 have HO:=hide hown
 clear hh hown hsc
 have e:Wd.aN ⟨want,op,items⟩ 114=some ⟨4,op,items⟩:=by simp[Wd.aN]
 rw[e]
 clear e
 go_enter Tryz.func134,Tryz.ntmps134
 go_wp2
 go_ret
 exact ⟨bE (Below.refl _ _) _,rfl,HS.out.want 4⟩
theorem JY (w:World)(b:Nat)(st:Wd.St)(hol:st.op.length<=10000)(hsc:Sc w b st) :
  Calls Tryz.prog 134 #[.pointer (some ⟨b,0,none⟩),.int .u8 119] w (fG w b (Wd.aN st 119)):=by
 obtain ⟨want,op,items⟩:=st
 obtain ⟨v,hh,hown⟩:=id hsc
 simp only at hh hown hol
 have c0:=aj (j:=0) hh rfl
 have c2:=aj (j:=2) hh rfl
 have f0:=frozen_of_row _ b 0 _ _ hh
 have f2:=frozen_of_row _ b 2 _ _ hh
 have HS:=hide hsc
 have HH:=hide hh
 have HO:=hide hown
 clear hh hown hsc
 have e:Wd.aN ⟨want,op,items⟩ 119=some ⟨4,op,items⟩:=by simp[Wd.aN]
 rw[e]
 clear e
 go_enter Tryz.func134,Tryz.ntmps134
 go_wp2
 go_ret
 exact ⟨bE (Below.refl _ _) _,rfl,HS.out.want 4⟩
theorem Lp (w:World)(b:Nat)(st:Wd.St)(hol:st.op.length<=10000)(hsc:Sc w b st) :
  Calls Tryz.prog 134 #[.pointer (some ⟨b,0,none⟩),.int .u8 60] w (fG w b (Wd.aN st 60)):=by
 obtain ⟨want,op,items⟩:=st
 obtain ⟨v,hh,hown⟩:=id hsc
 simp only at hh hown hol
 have c0:=aj (j:=0) hh rfl
 have c2:=aj (j:=2) hh rfl
 have f0:=frozen_of_row _ b 0 _ _ hh
 have f2:=frozen_of_row _ b 2 _ _ hh
 have HS:=hide hsc
 have HH:=hide hh
 have HO:=hide hown
 clear hh hown hsc
 have e:Wd.aN ⟨want,op,items⟩ 60=some ⟨want,op,items⟩:=by simp[Wd.aN]
 rw[e]
 clear e
 go_enter Tryz.func134,Tryz.ntmps134
 go_wp2
 go_ret
 exact ⟨Below.refl _ _,rfl,HS.out⟩
theorem Lr (w:World)(b:Nat)(st:Wd.St)(hol:st.op.length<=10000)(hsc:Sc w b st) :
  Calls Tryz.prog 134 #[.pointer (some ⟨b,0,none⟩),.int .u8 62] w (fG w b (Wd.aN st 62)):=by
 obtain ⟨want,op,items⟩:=st
 obtain ⟨v,hh,hown⟩:=id hsc
 simp only at hh hown hol
 have c0:=aj (j:=0) hh rfl
 have c2:=aj (j:=2) hh rfl
 have f0:=frozen_of_row _ b 0 _ _ hh
 have f2:=frozen_of_row _ b 2 _ _ hh
 have HS:=hide hsc
 have HH:=hide hh
 have HO:=hide hown
 clear hh hown hsc
 have e:Wd.aN ⟨want,op,items⟩ 62=some ⟨want,op,items⟩:=by simp[Wd.aN]
 rw[e]
 clear e
 go_enter Tryz.func134,Tryz.ntmps134
 go_wp2
 go_ret
 exact ⟨Below.refl _ _,rfl,HS.out⟩
theorem JZ (w:World)(b:Nat)(st:Wd.St)(hol:st.op.length<=10000)(hsc:Sc w b st) :
  Calls Tryz.prog 134 #[.pointer (some ⟨b,0,none⟩),.int .u8 122] w (fG w b (Wd.aN st 122)):=by
 obtain ⟨want,op,items⟩:=st
 obtain ⟨v,hh,hown⟩:=id hsc
 simp only at hh hown hol
 have c0:=aj (j:=0) hh rfl
 have c2:=aj (j:=2) hh rfl
 have f0:=frozen_of_row _ b 0 _ _ hh
 have f2:=frozen_of_row _ b 2 _ _ hh
 have HS:=hide hsc
 have HH:=hide hh
 have HO:=hide hown
 clear hh hown hsc
 have e:Wd.aN ⟨want,op,items⟩ 122=some ⟨want,op,items⟩:=by simp[Wd.aN]
 rw[e]
 clear e
 go_enter Tryz.func134,Tryz.ntmps134
 go_wp2
 go_ret
 exact ⟨Below.refl _ _,rfl,HS.out⟩
theorem Ls (w:World)(b:Nat)(st:Wd.St)(hol:st.op.length<=10000)(hsc:Sc w b st) :
  Calls Tryz.prog 134 #[.pointer (some ⟨b,0,none⟩),.int .u8 40] w (fG w b (Wd.aN st 40)):=by
 obtain ⟨want,op,items⟩:=st
 obtain ⟨v,hh,hown⟩:=id hsc
 simp only at hh hown hol
 have c0:=aj (j:=0) hh rfl
 have c2:=aj (j:=2) hh rfl
 have f0:=frozen_of_row _ b 0 _ _ hh
 have f2:=frozen_of_row _ b 2 _ _ hh
 have HS:=hide hsc
 have HH:=hide hh
 have HO:=hide hown
 clear hh hown hsc
 have e:Wd.aN ⟨want,op,items⟩ 40=some ⟨want,op++[40],items⟩:=by simp[Wd.aN]
 rw[e]
 clear e
 obtain ⟨i0,hi,hz0,hz1,hz2⟩:=info_parts Tryz.info5
 go_enter Tryz.func134,Tryz.ntmps134
 go_wp2_with (at_builtin;refine wpList_append_own _ rfl _ _ 63 rfl (b+1) 5 i0 (.int .u8 0) 1 1 Tryz.underlying63 hi hz0 hz1 hz2 rfl (by decide) _ _ _ rfl (HO.out.alloc _) ⟨_,0,none⟩ 1 1 [.int .u8 40] rfl rfl (cell_one_new _ _ _) (fun x hx=>by simp at hx;subst hx;rfl) (by unfold maxLen;omega) (by omega) (by have:=HS.out.lt;simp;omega) ?_;intro v' w3 hown' hgrow3 hnil3;obtain ⟨g,cap,rfl,hbg,hgs,hnc,hcap,hcells⟩:=rW hown';have k2:=aj (j:=2) (kg HO.out hgrow3 HH.out) rfl;have e2:=frozen_of_row _ b 2 _ _ (kg HO.out hgrow3 HH.out);have HG:=hide hgrow3;have HW:=hide hown';clear hcells hnil3 hgrow3 hown')
 go_ret
 refine ⟨bE (uG HO.out HG.out HS.out.lt) _,rfl,?_⟩
 refine Sc.vK (st:=⟨want,op,items⟩) (kg HO.out HG.out HH.out) ?_
 have:=HW.out
 simpa [Wd.aZ,Wd.bt] using this
theorem Lu (w:World)(b:Nat)(st:Wd.St)(hol:st.op.length<=10000)(hsc:Sc w b st) :
  Calls Tryz.prog 134 #[.pointer (some ⟨b,0,none⟩),.int .u8 91] w (fG w b (Wd.aN st 91)):=by
 obtain ⟨want,op,items⟩:=st
 obtain ⟨v,hh,hown⟩:=id hsc
 simp only at hh hown hol
 have c0:=aj (j:=0) hh rfl
 have c2:=aj (j:=2) hh rfl
 have f0:=frozen_of_row _ b 0 _ _ hh
 have f2:=frozen_of_row _ b 2 _ _ hh
 have HS:=hide hsc
 have HH:=hide hh
 have HO:=hide hown
 clear hh hown hsc
 have e:Wd.aN ⟨want,op,items⟩ 91=some ⟨want,op++[91],items⟩:=by simp[Wd.aN]
 rw[e]
 clear e
 obtain ⟨i0,hi,hz0,hz1,hz2⟩:=info_parts Tryz.info5
 go_enter Tryz.func134,Tryz.ntmps134
 go_wp2_with (at_builtin;refine wpList_append_own _ rfl _ _ 63 rfl (b+1) 5 i0 (.int .u8 0) 1 1 Tryz.underlying63 hi hz0 hz1 hz2 rfl (by decide) _ _ _ rfl (HO.out.alloc _) ⟨_,0,none⟩ 1 1 [.int .u8 91] rfl rfl (cell_one_new _ _ _) (fun x hx=>by simp at hx;subst hx;rfl) (by unfold maxLen;omega) (by omega) (by have:=HS.out.lt;simp;omega) ?_;intro v' w3 hown' hgrow3 hnil3;obtain ⟨g,cap,rfl,hbg,hgs,hnc,hcap,hcells⟩:=rW hown';have k2:=aj (j:=2) (kg HO.out hgrow3 HH.out) rfl;have e2:=frozen_of_row _ b 2 _ _ (kg HO.out hgrow3 HH.out);have HG:=hide hgrow3;have HW:=hide hown';clear hcells hnil3 hgrow3 hown')
 go_ret
 refine ⟨bE (uG HO.out HG.out HS.out.lt) _,rfl,?_⟩
 refine Sc.vK (st:=⟨want,op,items⟩) (kg HO.out HG.out HH.out) ?_
 have:=HW.out
 simpa [Wd.aZ,Wd.bt] using this
theorem J2 (w:World)(b:Nat)(st:Wd.St)(hol:st.op.length<=10000)(hsc:Sc w b st) :
  Calls Tryz.prog 134 #[.pointer (some ⟨b,0,none⟩),.int .u8 125] w (fG w b (Wd.aN st 125)):=by
 obtain ⟨want,op,items⟩:=st
 obtain ⟨v,hh,hown⟩:=id hsc
 simp only at hh hown hol
 have c0:=aj (j:=0) hh rfl
 have c2:=aj (j:=2) hh rfl
 have f0:=frozen_of_row _ b 0 _ _ hh
 have f2:=frozen_of_row _ b 2 _ _ hh
 have HS:=hide hsc
 have HH:=hide hh
 have HO:=hide hown
 clear hh hown hsc
 cases hl:op.length with
 | zero =>
  have e:Wd.aN ⟨want,op,items⟩ 125=some ⟨0,op,items⟩:=by simp[Wd.aN,hl]
  rw[e]
  clear e
  have hO:=HO.out
  rw[hl] at hO
  obtain ⟨ao,cap,rfl,hnc,hcap,_,_⟩:=rE hO
  clear hO hl
  go_enter Tryz.func134,Tryz.ntmps134
  go_wp2
  go_ret
  exact ⟨bE (Below.refl _ _) _,rfl,HS.out.want 0⟩
 | succ m =>
  have e:Wd.aN ⟨want,op,items⟩ 125=none:=by simp[Wd.aN,hl]
  rw[e]
  clear e
  have hO:=HO.out
  rw[hl] at hO
  obtain ⟨ao,cap,rfl,hnc,hcap,_,_⟩:=rE hO
  clear hO
  rw[hl] at hol
  clear hl
  have hz:(((m+1:Nat):Int)==0)=false:=beq_eq_false_iff_ne.2 (by omega)
  go_enter Tryz.func134,Tryz.ntmps134
  go_wp2
  go_ret
  exact ⟨bE (Below.refl _ _) _,rfl⟩
theorem Lv (w:World)(b:Nat)(st:Wd.St)(hol:st.op.length<=10000)(hsc:Sc w b st) :
  Calls Tryz.prog 134 #[.pointer (some ⟨b,0,none⟩),.int .u8 41] w (fG w b (Wd.aN st 41)):=by
 obtain ⟨want,op,items⟩:=st
 obtain ⟨v,hh,hown⟩:=id hsc
 simp only at hh hown hol
 have c0:=aj (j:=0) hh rfl
 have c2:=aj (j:=2) hh rfl
 have f0:=frozen_of_row _ b 0 _ _ hh
 have f2:=frozen_of_row _ b 2 _ _ hh
 have HS:=hide hsc
 have HH:=hide hh
 have HO:=hide hown
 clear hh hown hsc
 have HX:=yS 124 w b ⟨want,op,items⟩ (by omega) (by omega) HS.out
 simp only at HX
 cases hq:Wd.shut op 124 with
 | none =>
  have e:Wd.aN ⟨want,op,items⟩ 41=none:=by simp[Wd.aN,hq]
  rw[e]
  clear e
  rw[hq] at HX
  have HX':=hide HX
  clear HX hq
  go_enter Tryz.func134,Tryz.ntmps134
  go_wp2_with (go_at_call 147;refine HX'.out.mono ?_;rintro e w' ⟨rfl,rfl⟩)
  go_ret
  exact ⟨Below.refl _ _,rfl⟩
 | some o =>
  have e:Wd.aN ⟨want,op,items⟩ 41=some ⟨want,o,items⟩:=by simp[Wd.aN,hq]
  rw[e]
  clear e
  rw[hq] at HX
  have HX':=hide HX
  clear HX hq
  go_enter Tryz.func134,Tryz.ntmps134
  go_wp2_with (go_at_call 147;refine HX'.out.mono ?_;rintro e w' ⟨rfl,jb,qO⟩)
  go_ret
  exact ⟨qO,rfl,jb⟩
theorem Lx (w:World)(b:Nat)(st:Wd.St)(hol:st.op.length<=10000)(hsc:Sc w b st) :
  Calls Tryz.prog 134 #[.pointer (some ⟨b,0,none⟩),.int .u8 93] w (fG w b (Wd.aN st 93)):=by
 obtain ⟨want,op,items⟩:=st
 obtain ⟨v,hh,hown⟩:=id hsc
 simp only at hh hown hol
 have c0:=aj (j:=0) hh rfl
 have c2:=aj (j:=2) hh rfl
 have f0:=frozen_of_row _ b 0 _ _ hh
 have f2:=frozen_of_row _ b 2 _ _ hh
 have HS:=hide hsc
 have HH:=hide hh
 have HO:=hide hown
 clear hh hown hsc
 have HX:=yS 91 w b ⟨want,op,items⟩ (by omega) (by omega) HS.out
 simp only at HX
 cases hq:Wd.shut op 91 with
 | none =>
  have e:Wd.aN ⟨want,op,items⟩ 93=none:=by simp[Wd.aN,hq]
  rw[e]
  clear e
  rw[hq] at HX
  have HX':=hide HX
  clear HX hq
  go_enter Tryz.func134,Tryz.ntmps134
  go_wp2_with (go_at_call 147;refine HX'.out.mono ?_;rintro e w' ⟨rfl,rfl⟩)
  go_ret
  exact ⟨Below.refl _ _,rfl⟩
 | some o =>
  have e:Wd.aN ⟨want,op,items⟩ 93=some ⟨want,o,items⟩:=by simp[Wd.aN,hq]
  rw[e]
  clear e
  rw[hq] at HX
  have HX':=hide HX
  clear HX hq
  go_enter Tryz.func134,Tryz.ntmps134
  go_wp2_with (go_at_call 147;refine HX'.out.mono ?_;rintro e w' ⟨rfl,jb,qO⟩)
  go_ret
  exact ⟨qO,rfl,jb⟩
theorem J3 (c:Int)(w:World)(b:Nat)(st:Wd.St)(h0:0<=c)(h1:c<=255)(m43:c≠43)(m45:c≠45)(jo:c≠114)(jq:c≠119)(m60:c≠60)(m62:c≠62)(kP:c≠122)(m40:c≠40)(m91:c≠91)(mh:c≠124)(m41:c≠41)(m93:c≠93)(oN:c≠125)(hsc:Sc w b st) :
  Calls Tryz.prog 134 #[.pointer (some ⟨b,0,none⟩),.int .u8 c] w (fG w b (Wd.aN st c)):=by
 obtain ⟨want,op,items⟩:=st
 have HS:=hide hsc
 clear hsc
 have n43:(c==43)=false:=beq_eq_false_iff_ne.2 m43
 have n45:(c==45)=false:=beq_eq_false_iff_ne.2 m45
 have n114:(c==114)=false:=beq_eq_false_iff_ne.2 jo
 have n119:(c==119)=false:=beq_eq_false_iff_ne.2 jq
 have n60:(c==60)=false:=beq_eq_false_iff_ne.2 m60
 have n62:(c==62)=false:=beq_eq_false_iff_ne.2 m62
 have n122:(c==122)=false:=beq_eq_false_iff_ne.2 kP
 have n40:(c==40)=false:=beq_eq_false_iff_ne.2 m40
 have n91:(c==91)=false:=beq_eq_false_iff_ne.2 m91
 have n124:(c==124)=false:=beq_eq_false_iff_ne.2 mh
 have n41:(c==41)=false:=beq_eq_false_iff_ne.2 m41
 have n93:(c==93)=false:=beq_eq_false_iff_ne.2 m93
 have n125:(c==125)=false:=beq_eq_false_iff_ne.2 oN
 cases hu:Wd.up c
 ·have e:Wd.aN ⟨want,op,items⟩ c=none:=by simp[Wd.aN,hu,m43,m45,jo,jq,m60,m62,kP,m40,m91,mh,m41,m93,oN]
  rw[e]
  clear e m43 m45 jo jq m60 m62 kP m40 m91 mh m41 m93 oN
  go_enter Tryz.func134,Tryz.ntmps134
  go_wp2_with (go_at_call 111;refine (dN _ _ h0 h1).mono ?_;rintro e w' ⟨rfl,rfl⟩)
  go_ret
  exact ⟨Below.refl _ _,rfl⟩
 ·have e:Wd.aN ⟨want,op,items⟩ c=some ⟨want,op,items⟩:=by simp[Wd.aN,hu,m43,m45,jo,jq,m60,m62,kP,m40,m91,mh,m41,m93,oN]
  rw[e]
  clear e m43 m45 jo jq m60 m62 kP m40 m91 mh m41 m93 oN
  go_enter Tryz.func134,Tryz.ntmps134
  go_wp2_with (go_at_call 111;refine (dN _ _ h0 h1).mono ?_;rintro e w' ⟨rfl,rfl⟩)
  go_ret
  exact ⟨Below.refl _ _,rfl,HS.out⟩
theorem J4 (w:World)(b:Nat)(st:Wd.St)(hol:st.op.length<=10000)(hsc:Sc w b st) :
  Calls Tryz.prog 134 #[.pointer (some ⟨b,0,none⟩),.int .u8 124] w (fG w b (Wd.aN st 124)):=by
 obtain ⟨want,op,items⟩:=st
 simp only at hol
 have HX:=yS 40 w b ⟨want,op,items⟩ (by omega) (by omega) hsc
 simp only at HX
 have HS:=hide hsc
 clear hsc
 obtain ⟨i0,hi,hz0,hz1,hz2⟩:=info_parts Tryz.info5
 cases hq:Wd.shut op 40 with
 | none =>
  have e:Wd.aN ⟨want,op,items⟩ 124=none:=by simp[Wd.aN,hq]
  rw[e]
  clear e
  rw[hq] at HX
  have HX':=hide HX
  clear HX hq
  go_enter Tryz.func134,Tryz.ntmps134
  go_wp2_with fail
  refine HX'.out.mono ?_
  rintro e w' ⟨rfl,rfl⟩
  obtain ⟨v,hh,hown⟩:=HS.out
  have c2:=aj (j:=2) hh rfl
  have f2:=frozen_of_row _ b 2 _ _ hh
  have HH:=hide hh
  have HO:=hide hown
  simp only at hown
  clear hh hown
  go_wp2_with (at_builtin;refine wpList_append_own _ rfl _ _ 63 rfl (b+1) 5 i0 (.int .u8 0) 1 1 Tryz.underlying63 hi hz0 hz1 hz2 rfl (by decide) _ _ _ rfl (HO.out.alloc _) ⟨_,0,none⟩ 1 1 [.int .u8 124] rfl rfl (cell_one_new _ _ _) (fun x hx=>by simp at hx;subst hx;rfl) (by unfold maxLen;omega) (by omega) (by have:=HS.out.lt;simp;omega) ?_;intro v' w3 hown' hgrow3 hnil3;obtain ⟨g,cap,rfl,hbg,hgs,hnc,hcap,hcells⟩:=rW hown';have k2:=aj (j:=2) (kg HO.out hgrow3 HH.out) rfl;have e2:=frozen_of_row _ b 2 _ _ (kg HO.out hgrow3 HH.out);have HG:=hide hgrow3;have HW:=hide hown';clear hcells hnil3 hgrow3 hown')
  go_ret
  exact ⟨bE (uG HO.out HG.out HS.out.lt) _,rfl⟩
 | some o =>
  have e:Wd.aN ⟨want,op,items⟩ 124=some ⟨want,o++[124],items⟩:=by simp[Wd.aN,hq]
  rw[e]
  clear e
  rw[hq] at HX
  have HX':=hide HX
  have hoo:o.length<=10000:=by
   simp only[Wd.shut] at hq
   split at hq
   ·cases hq;simp;omega
   ·cases hq
  clear HX hq
  go_enter Tryz.func134,Tryz.ntmps134
  go_wp2_with fail
  refine HX'.out.mono ?_
  rintro e w' ⟨rfl,jb,qO⟩
  obtain ⟨v,hh,hown⟩:=id jb
  have HS':=hide jb
  have HB':=hide qO
  have c2:=aj (j:=2) hh rfl
  have f2:=frozen_of_row _ b 2 _ _ hh
  have HH:=hide hh
  have HO:=hide hown
  simp only at hown
  clear hh hown jb qO
  go_wp2_with (at_builtin;refine wpList_append_own _ rfl _ _ 63 rfl (b+1) 5 i0 (.int .u8 0) 1 1 Tryz.underlying63 hi hz0 hz1 hz2 rfl (by decide) _ _ _ rfl (HO.out.alloc _) ⟨_,0,none⟩ 1 1 [.int .u8 124] rfl rfl (cell_one_new _ _ _) (fun x hx=>by simp at hx;subst hx;rfl) (by unfold maxLen;omega) (by omega) (by have:=HS'.out.lt;simp;omega) ?_;intro v' w3 hown' hgrow3 hnil3;obtain ⟨g,cap,rfl,hbg,hgs,hnc,hcap,hcells⟩:=rW hown';have k2:=aj (j:=2) (kg HO.out hgrow3 HH.out) rfl;have e2:=frozen_of_row _ b 2 _ _ (kg HO.out hgrow3 HH.out);have HG:=hide hgrow3;have HW:=hide hown';clear hcells hnil3 hgrow3 hown')
  go_ret
  refine ⟨bE (HB'.out.trans (uG HO.out HG.out HS'.out.lt)) _,rfl,?_⟩
  refine Sc.vK (st:=⟨want,o,items⟩) (kg HO.out HG.out HH.out) ?_
  have:=HW.out
  simpa [Wd.aZ,Wd.bt] using this
theorem LA (c:Int)(w:World)(b:Nat)(st:Wd.St)(h0:0<=c)(h1:c<=255)(hol:st.op.length<=10000)(hsc:Sc w b st) :
  Calls Tryz.prog 134 #[.pointer (some ⟨b,0,none⟩),.int .u8 c] w (fG w b (Wd.aN st c)):=by
 by_cases b43:c=43
 ·subst b43;exact Ll w b st hol hsc
 by_cases b45:c=45
 ·subst b45;exact Lm w b st hol hsc
 by_cases oO:c=114
 ·subst oO;exact JX w b st hol hsc
 by_cases oP:c=119
 ·subst oP;exact JY w b st hol hsc
 by_cases b60:c=60
 ·subst b60;exact Lp w b st hol hsc
 by_cases b62:c=62
 ·subst b62;exact Lr w b st hol hsc
 by_cases qL:c=122
 ·subst qL;exact JZ w b st hol hsc
 by_cases b40:c=40
 ·subst b40;exact Ls w b st hol hsc
 by_cases b91:c=91
 ·subst b91;exact Lu w b st hol hsc
 by_cases qM:c=124
 ·subst qM;exact J4 w b st hol hsc
 by_cases b41:c=41
 ·subst b41;exact Lv w b st hol hsc
 by_cases b93:c=93
 ·subst b93;exact Lx w b st hol hsc
 by_cases qN:c=125
 ·subst qN;exact J2 w b st hol hsc
 exact J3 c w b st h0 h1 b43 b45 oO oP b60 b62 qL b40 b91 qM b41 b93 qN hsc
end Go.Proofs.YtecmfdkhcffpmaaGreat
