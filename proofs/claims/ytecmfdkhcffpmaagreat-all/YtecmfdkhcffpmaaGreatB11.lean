/- SrcL, Unf1, RefJ, Unf2, RefK, SameU. -/
import Derived.Test.YtecmfdkhcffpmaaGreatB08
import Derived.Deep.QuietTactic
import Derived.BigQuiet
import Derived.Test.YtecmfdkhcffpmaaGreatB03
import Derived.Test.YtecmfdkhcffpmaaGreatB10
namespace Go.Proofs.YtecmfdkhcffpmaaGreat
open Go.RowKit
set_option linter.unusedVariables false
set_option linter.unusedSimpArgs false
set_option linter.unusedSectionVars false
set_option maxHeartbeats 8000000
set_option maxRecDepth 100000
def Gc (w:World)(r:Except (Int×Int) (List Wd.It))(e:Ending)(w':World):Prop :=
 Below w.heap.size w w'/\(match r with
  | .ok its=>∃g cap,e=.returned (.tuple #[.slice (some ⟨g,0,none⟩) its.length cap,.int .i64 0])/\w'.ownsRow w.heap.size 37 2 (.slice (some ⟨g,0,none⟩) its.length cap) its.length (Wd.dV its)
  | .error x=>e=.returned (.tuple #[.slice none 0 0,.int .i64 x.1]))
theorem kZ (s:ByteArray)(w:World)(hs:s.size<=maxLen) :
  Calls Tryz.prog 35 #[.string s] w (Gc w (Wd.aF s.data.toList)):=by
 have HX:=EA s w hs
 cases hq:Wd.aF s.data.toList with
 | error x =>
  rw[hq] at HX
  have HXX:=hide HX
  clear HX hq
  go_enter Tryz.func35,Tryz.ntmps35
  go_wp2_with (go_at_call 51;refine HXX.out.mono ?_;rintro e w' ⟨hb,rfl⟩)
  go_ret2
  exact ⟨hb,rfl⟩
 | ok its =>
  rw[hq] at HX
  have HXX:=hide HX
  clear HX hq
  go_enter Tryz.func35,Tryz.ntmps35
  go_wp2_with (go_at_call 51;refine HXX.out.mono ?_;rintro e w' ⟨hb,g,cp,rfl,hown⟩)
  go_ret2
  exact ⟨hb,g,cp,rfl,hown⟩
theorem AJ (s:ByteArray)(w:World)(hs:s.size<=maxLen) :
  Calls Tryz.prog 14 #[.string s] w (Gc w (Wd.aF s.data.toList)):=by
 have HX:=kZ s w hs
 cases hq:Wd.aF s.data.toList with
 | error x =>
  rw[hq] at HX
  have HXX:=hide HX
  clear HX hq
  go_enter Tryz.func14,Tryz.ntmps14
  go_wp2_with (go_at_call 35;refine HXX.out.mono ?_;rintro e w' ⟨hb,rfl⟩)
  go_ret2
  exact ⟨hb,rfl⟩
 | ok its =>
  rw[hq] at HX
  have HXX:=hide HX
  clear HX hq
  go_enter Tryz.func14,Tryz.ntmps14
  go_wp2_with (go_at_call 35;refine HXX.out.mono ?_;rintro e w' ⟨hb,g,cp,rfl,hown⟩)
  go_ret2
  exact ⟨hb,g,cp,rfl,hown⟩
theorem yX (ps:List Wd.It)(j k:Nat)(hj:j<ps.length)(hk:k<2):(Wd.dV ps)[j*2+k]?=(Wd.itV ps[j])[k]?:=by
 induction ps generalizing j with
 | nil=>simp at hj
 | cons p r ih =>
  have e:Wd.dV (p::r)=Wd.itV p++Wd.dV r:=rfl
  rw[e]
  cases j with
  | zero =>
   rw[List.getElem?_append_left (by simp[Wd.itV];omega)]
   simp
  | succ j =>
   rw[List.getElem?_append_right (by simp[Wd.itV];omega)]
   have e2:(j+1)*2+k-(Wd.itV p).length=j*2+k:=by simp[Wd.itV];omega
   rw[e2,ih j (by simpa using hj)]
   simp
theorem vN {w:World}{base:Nat}{e:TypeId}{v:Value}{ps:List Wd.It}(h:w.ownsRow base e 2 v ps.length (Wd.dV ps)) :
  ∃ao cap,v=.slice ao ps.length cap/\ps.length<=cap/\cap<=maxLen/\(∀j (hj:j<ps.length),∃g,ao=some ⟨g,0,none⟩/\base<=g/\g<w.heap.size/\w.cell? ⟨g,j*2,none⟩=some (.bool (ps[j]).handler)/\w.cell? ⟨g,j*2+1,none⟩=some (.string (Wd.mkS (ps[j]).body))):=by
 obtain ⟨hl,h2⟩:=id h
 rcases h2 with ⟨hv,h0⟩ | ⟨g,cap,cur,hv,hg,hh,hn,hm,hs,ht⟩
 ·refine ⟨none,0,by rw[hv,h0],by omega,by unfold maxLen;omega,fun j hj=>by omega⟩
 ·refine ⟨some ⟨g,0,none⟩,cap,hv,hn,hm,fun j hj=>⟨g,rfl,hg,bB hh,?_,?_⟩⟩
  ·have:=h.cells (g:=g) (by rw[hv];rfl) (j*2) _ (yX ps j 0 hj (by omega))
   rw[Addr.add_mid] at this;simpa using this
  ·have:=h.cells (g:=g) (by rw[hv];rfl) (j*2+1) _ (yX ps j 1 hj (by omega))
   rw[Addr.add_mid] at this;simpa using this
theorem uy (its:List Wd.It)(v1 v2:Value)(w:World)(b1 b2:Nat)(hl:its.length<=10000)(h1:w.ownsRow b1 37 2 v1 its.length (Wd.dV its))(h2:w.ownsRow b2 37 2 v2 its.length (Wd.dV its)) :
  Calls Tryz.prog 15 #[v1,v2] w fun e w'=>e=.returned (.bool true)/\Below w.heap.size w w':=by
 obtain ⟨ao,eH,rfl,hc1,hm1,hcell1⟩:=vN h1
 obtain ⟨bo,cap2,rfl,hc2,hm2,hcell2⟩:=vN h2
 have HC1:=hide hcell1
 have HC2:=hide hcell2
 unfold maxLen at hm1 hm2
 clear h1 h2 hcell1 hcell2
 have hne:(((its.length:Nat):Int) != ((its.length:Nat):Int))=false:=by simp
 go_enter Tryz.func15,Tryz.ntmps15
 go_wp2
 go_loopw [5] (fun a wr=>∃k:Nat,k<=its.length/\a=.int .i64 k/\Below w.heap.size w wr) (fun a _=>its.length-(intOf a).toNat)
 case atStart=>exact ⟨0,Nat.zero_le _,rfl,Below.refl _ _⟩
 case round =>
  obtain ⟨k,hk,rfl,hbe⟩:=hrel
  have HB:=hide hbe
  clear hbe
  by_cases hlt:k<its.length
  ·obtain ⟨g1,rfl,_,hg1,q1,q2⟩:=HC1.out k hlt
   obtain ⟨g2,rfl,_,hg2,q3,q4⟩:=HC2.out k hlt
   have d1:=(HB.out.cell (p:=⟨g1,k*2,none⟩) hg1).trans q1
   have d2:=(HB.out.cell (p:=⟨g1,k*2+1,none⟩) hg1).trans q2
   have d3:=(HB.out.cell (p:=⟨g2,k*2,none⟩) hg2).trans q3
   have d4:=(HB.out.cell (p:=⟨g2,k*2+1,none⟩) hg2).trans q4
   clear q1 q2 q3 q4
   generalize its[k]=it at *
   obtain ⟨hd,bd⟩:=it
   simp only at d1 d2 d3 d4
   generalize Wd.mkS bd=sb at *
   have hki:(k:Int)<(its.length:Int):=by omega
   have hk0:(0:Int)<=(k:Int):=by omega
   have hbb:(hd != hd)=false:=by simp
   go_wp2_with fail
   go_quiet (fail)
   go_wp2
   exact ⟨⟨k+1,by omega,by go_num,below_drewN HB.out _⟩,by simp[intOf];omega⟩
  ·go_wp2
   go_ret
   exact ⟨rfl,HB.out⟩
namespace Wd
def fJ (l:List UInt8)(of:Nat->Int)(c:UInt8):List UInt8 :=
 if up (bt c)=true then (if 0<of (bt c-65).toNat then body l ((head l (bt c)).getD 0) else []) else [c]
def pass (l:List UInt8)(of:Nat->Int)(b:List UInt8):List UInt8:=b.flatMap (fJ l of)
def gI (l:List UInt8)(of:Nat->Int)(b:List UInt8):Nat->List UInt8
 | 0=>b
 | k+1=>pass l of (gI l of b k)
theorem NP (l:List UInt8)(of:Nat->Int)(s:ByteArray)(k:Nat)(h:k<s.size):pass l of (s.data.toList.take (k+1))=pass l of (s.data.toList.take k)++fJ l of s[k]:=by
 rw[List.take_succ_eq_append_getElem (by rw[aI];exact h)]
 simp[pass]
 rfl
theorem D9 (l:List UInt8)(of:Nat->Int)(b:List UInt8)(k:Nat):(pass l of (b.take k)).length<=(pass l of b).length:=by
 have:pass l of b=pass l of (b.take k)++pass l of (b.drop k):=by
  rw[pass,pass,pass,<-List.flatMap_append,List.take_append_drop]
 rw[this];simp
end Wd
theorem Jo (s t:ByteArray)(of:Nat->Int)(w:World)(hs:s.size<=10000)(ho:∀j,0<=of j/\of j<=301)(hH:∀c:Int,Wd.up c=true->0<of (c-65).toNat->∃i,Wd.head s.data.toList c=some i)(hB:∀p,p<=8->(Wd.gI s.data.toList of t.data.toList p).length<=100000) :
  Calls Tryz.prog 34 #[.string s,.string t,.agg (Wd.bO of)] w fun e w'=>∃u:ByteArray,e=.returned (.string u)/\u.data.toList=Wd.gI s.data.toList of t.data.toList 8/\Below w.heap.size w w':=by
 have HO:=hide ho
 have HH:=hide hH
 have HB:=hide hB
 clear ho hH hB
 unfold Wd.bO
 go_enter Tryz.func34,Tryz.ntmps34
 go_wp2
 have hN:=heap_alloc_last w (.cells (Wd.bO of) 53)
 have Gw:Below w.heap.size w (w.alloc (.cells (Wd.bO of) 53)):=(Below.refl _ _).alloc (Nat.le_refl _) _
 rw[show (w.alloc (.cells #[.int .i64 (of 0),.int .i64 (of 1),.int .i64 (of 2),.int .i64 (of 3),.int .i64 (of 4),.int .i64 (of 5),.int .i64 (of 6),.int .i64 (of 7)] 53))=w.alloc (.cells (Wd.bO of) 53) from rfl]
 generalize w.alloc (.cells (Wd.bO of) 53)=W at *
 have HN:=hide hN
 have HB0:=hide Gw
 clear hN Gw
 go_loop [1,7] (fun a b=>∃(k:Nat) (u:ByteArray),k<=8/\b=.int .i64 k/\a=.string u/\u.data.toList=Wd.gI s.data.toList of t.data.toList k) (fun _ b=>8-(intOf b).toNat)
 case atStart=>exact ⟨0,t,by omega,rfl,rfl,rfl⟩
 case round =>
  obtain ⟨k,u,hk,rfl,rfl,hu⟩:=hrel
  have HU:=hide hu
  clear hu
  by_cases hlt:k<8
  ·have hus:u.size<=100000:=by rw[<-Wd.aI,HU.out];exact HB.out k hk
   have hps:(Wd.pass s.data.toList of u.data.toList).length<=100000:=by
    have:=HB.out (k+1) (by omega)
    rw[Wd.gI,<-HU.out] at this;exact this
   go_wp2_with fail
   go_loop [8,9] (fun a b=>∃(i:Nat) (o:ByteArray),i<=u.size/\b=.int .i64 i/\a=.string o/\o.data.toList=Wd.pass s.data.toList of (u.data.toList.take i)) (fun _ b=>u.size-(intOf b).toNat)
   case atStart=>exact ⟨0,⟨#[]⟩,Nat.zero_le _,rfl,rfl,rfl⟩
   case round =>
    obtain ⟨i,o,hi,rfl,rfl,ho⟩:=hrel
    have HOO:=hide ho
    have hos:o.size<=100000:=by
     rw[<-Wd.aI,HOO.out]
     have:=Wd.D9 s.data.toList of u.data.toList i
     omega
    clear ho
    by_cases hil:i<u.size
    ·have HS:=hide (Wd.NP s.data.toList of u i hil)
     have b0:=Wd.iL u.data.toList i
     have b1:=Wd.iD u.data.toList i
     rw[<-Wd.dz u i hil] at b0 b1
     cases hup:Wd.up ((u[i].toNat:Nat):Int)
     ·have HC:Hid (Wd.fJ s.data.toList of u[i]=[u[i]]):=by
       have:Wd.up (Wd.bt u[i])=false:=hup
       simp[Hid,Wd.fJ,this]
      go_wp2_with (go_at_call 52;refine (bM _ _ b0 b1).mono ?_;rw[hup];rintro e w' ⟨rfl,rfl⟩)
      refine ⟨⟨i+1,_,by omega,by go_num,rfl,?_⟩,by simp[intOf];omega⟩
      rw[HS.out,HC.out,<-HOO.out]
      simp only[ByteArray.data_append,Array.toList_append,Wd.pV]
      congr 1
      rw[Nat.add_sub_cancel_left,Wd.drop_cons u i hil];rfl
     ·have hu':=hup
      simp[Wd.up] at hu'
      have HUP:Hid (Wd.up (Wd.bt u[i])=true):=hup
      have hidx:Hid ((Wd.bt u[i]-65).toNat=u[i].toNat-65):=by apply hide;unfold Wd.bt;omega
      have ho':=HO.out (u[i].toNat-65)
      have c1:=aj HN.out (Wd.Fg of (u[i].toNat-65) (by omega))
      by_cases hg:0<of (u[i].toNat-65)
      ·obtain ⟨h,hh⟩:=HH.out ((u[i].toNat:Nat):Int) hup (by rw[show (((u[i].toNat:Nat):Int)-65).toNat=u[i].toNat-65 from by omega];exact hg)
       have hhs:h+2<=s.size:=by have:=(Wd.yw hh).1;rw[Wd.aI] at this;omega
       have HC:Hid (Wd.fJ s.data.toList of u[i]=Wd.body s.data.toList h):=by
        have e1:Wd.head s.data.toList (Wd.bt u[i])=some h:=hh
        simp[Hid,Wd.fJ,HUP.out,hidx.out,hg,e1]
       have HHD:Hid (Wd.toInt (Wd.head s.data.toList ((u[i].toNat:Nat):Int))=(h:Int)):=by rw[hh];rfl
       have HLB:Hid (Wd.pass s.data.toList of (u.data.toList.take (i+1))=Wd.pass s.data.toList of (u.data.toList.take i)++Wd.body s.data.toList h):=by rw[HS.out,HC.out];rfl
       have hlb:o.size+(Wd.body s.data.toList h).length<=100000:=by
        rw[<-Wd.aI,HOO.out,<-List.length_append,<-HLB.out]
        have:=Wd.D9 s.data.toList of u.data.toList (i+1)
        omega
       clear hh
       go_wp2_with (first|(go_at_call 52;refine (bM _ _ b0 b1).mono ?_;rw[hup];rintro e w' ⟨rfl,rfl⟩)|(go_at_call 56;refine (mF _ _ _ (by omega) b0 b1).mono ?_;rw[HHD.out];rintro e w' ⟨rfl,rfl⟩)|(go_at_call 32;refine (rJ s h _ (by omega) hhs).mono ?_;rintro e w' ⟨tt,rfl,htt,U8,rfl⟩;have htl:tt.size=(Wd.body s.data.toList h).length:=by rw[<-Wd.aI,htt]))
       refine ⟨⟨i+1,_,by omega,by go_num,rfl,?_⟩,by simp[intOf];omega⟩
       rw[HLB.out,<-HOO.out,<-htt]
       simp
      ·have HC:Hid (Wd.fJ s.data.toList of u[i]=[]):=by
        simp[Hid,Wd.fJ,HUP.out,hidx.out,hg]
       go_wp2_with (first|(go_at_call 52;refine (bM _ _ b0 b1).mono ?_;rw[hup];rintro e w' ⟨rfl,rfl⟩))
       refine ⟨⟨i+1,o,by omega,by go_num,rfl,?_⟩,by simp[intOf];omega⟩
       rw[HS.out,HC.out,<-HOO.out];simp
    ·go_wp2
     refine ⟨⟨k+1,o,by omega,by go_num,rfl,?_⟩,by simp[intOf];omega⟩
     rw[HOO.out,Wd.gI,<-HU.out,List.take_of_length_le (by rw[Wd.aI];omega)]
  ·go_wp2
   go_ret
   obtain rfl:k=8:=by omega
   exact ⟨u,rfl,HU.out,HB0.out⟩
namespace Wd
def qG (l:List UInt8)(i:Nat):It:=⟨at_ l i==104,gI l (aU l 8) (body l i) 8⟩
def jE (l:List UInt8):List It:=(starts l).map (qG l)
theorem Kj (l:List UInt8)(f k:Nat)(h:head l (65+(f:Int))=none):aU l k f=0:=by
 induction k with
 | zero=>rfl
 | succ k ih=>simp only[aU,lu,h,ih]
theorem Kk (l:List UInt8)(c:Int)(hu:up c=true)(hp:0<aU l 8 (c-65).toNat):∃i,head l c=some i:=by
 cases hh:head l c with
 | some i=>exact ⟨i,rfl⟩
 | none =>
  simp[up] at hu
  have:=Kj l (c-65).toNat 8 (by rw[show 65+(((c-65).toNat:Nat):Int)=c from by omega];exact hh)
  omega
end Wd
theorem BR (s:ByteArray)(w:World)(hs:s.size<=maxLen)(hne:(Wd.bX s.data.toList).1≠0) :
  Calls Tryz.prog 13 #[.string s] w fun e w'=>e=.returned (.tuple #[.slice none 0 0,.int .i64 (Wd.bX s.data.toList).1])/\Below w.heap.size w w':=by
 have HX:=hide (uL s w hs)
 have hn:((Wd.bX s.data.toList).1 != 0)=true:=by rw[bne_iff_ne];exact hne
 clear hne
 generalize (Wd.bX s.data.toList).1=a at *
 generalize (Wd.bX s.data.toList).2=b at *
 go_enter Tryz.func13,Tryz.ntmps13
 go_wp2_with (go_at_call 12;refine HX.out.mono ?_;rintro e w' ⟨rfl,hb⟩)
 go_ret2
 exact ⟨rfl,hb⟩
theorem xC (s:ByteArray)(w:World)(hs:s.size<=240)(hok:(Wd.bX s.data.toList).1=0)(hL:∀i∈Wd.starts s.data.toList,∀p,p<=8->(Wd.gI s.data.toList (Wd.aU s.data.toList 8) (Wd.body s.data.toList i) p).length<=100000) :
  Calls Tryz.prog 13 #[.string s] w fun e w'=>∃v,e=.returned (.tuple #[v,.int .i64 0])/\w'.ownsRow w.heap.size 37 2 v (Wd.jE s.data.toList).length (Wd.dV (Wd.jE s.data.toList))/\Below w.heap.size w w':=by
 have HX:=uL s w (by unfold maxLen;omega)
 rw[hok] at HX
 have HXX:=hide HX
 have HL:=hide hL
 clear HX hL hok
 generalize (Wd.bX s.data.toList).2=b at *
 obtain ⟨i0,hi,hz0,hz1,hz2⟩:=info_parts Tryz.info31
 have HUR:Hid (Wd.jE s.data.toList=(Wd.starts s.data.toList).map (Wd.qG s.data.toList)):=rfl
 go_enter Tryz.func13,Tryz.ntmps13
 go_wp2_with fail
 refine HXX.out.mono ?_
 rintro e w3 ⟨rfl,hb3⟩
 have HB3:=hide hb3
 clear hb3 HXX
 go_wp2_with fail
 refine (DR s _ (by omega)).mono ?_
 rintro e w4 ⟨rfl,hb4⟩
 have HB4:=hide (HB3.out.trans (hb4.mono HB3.out.size))
 clear hb4 HB3
 go_wp2_with (refine wpList_store_row rfl 53 _ _ rfl _ _ rfl rfl 53 _ (heap_alloc_last _ _) Tryz.i33 rfl (Wd.rM _) ?_)
 rw[World.setRow_alloc_new]
 go_wp2_with fail
 have a1:=hide (heap_alloc_last w4 (.cells (Wd.bO (Wd.aU s.data.toList 8)) 53))
 have a2:Hid (Below w.heap.size w (w4.alloc (.cells (Wd.bO (Wd.aU s.data.toList 8)) 53))):=HB4.out.alloc HB4.out.size _
 generalize w4.alloc (.cells (Wd.bO (Wd.aU s.data.toList 8)) 53)=W at *
 generalize w4.heap.size=N at *
 clear HB4
 refine (Db s _ (by omega)).mono ?_
 rintro e w5 ⟨v,rfl,hown,hb5⟩
 obtain ⟨ao,cap,rfl,hnc,hcap,hlen,hcell⟩:=rE hown
 have A1:=hide (dw hb5 a1.out)
 have A2:=hide (a2.out.trans (hb5.mono a2.out.size))
 have HCL:=hide hcell
 have hln:=Wd.uw s.data.toList s.data.toList.length
 rw[show Wd.gQ s.data.toList s.data.toList.length=Wd.starts s.data.toList from rfl,Wd.aI] at hln
 unfold maxLen at hcap
 clear a1 a2 hown hb5 hcell hlen
 generalize hn:(Wd.starts s.data.toList).length=n at *
 have HN:=hide hn
 clear hn
 go_wp2_with fail
 go_loopw [8,9] (fun a b wr=>∃k:Nat,k<=n/\b=.int .i64 k/\Below w5.heap.size w5 wr/\wr.ownsRow w5.heap.size 37 2 a ((Wd.jE s.data.toList).take k).length (Wd.dV ((Wd.jE s.data.toList).take k))) (fun _ b _=>n-(intOf b).toNat)
 case atStart=>exact ⟨0,by omega,rfl,Below.refl _ _,World.ownsRow_nil _ _ _ _⟩
 case round =>
  obtain ⟨k,hk,rfl,hbe,hO⟩:=hrel
  have HB:=hide hbe
  have HO:=hide hO
  clear hbe hO
  by_cases hkl:k<n
  ·have hget:(Wd.starts s.data.toList)[k]?=some ((Wd.starts s.data.toList).getD k 0):=by
    rw[List.getD_eq_getElem?_getD,List.getElem?_eq_getElem (by rw[HN.out];exact hkl)];rfl
   obtain ⟨g,rfl,hc1,hg1,hg2⟩:=HCL.out k (.int .i64 (((Wd.starts s.data.toList).getD k 0:Nat):Int)) (by simp only[Wd.qF,List.getElem?_map,hget];rfl)
   have hmem:=List.mem_of_getElem? hget
   have hst:(Wd.starts s.data.toList).getD k 0+2<=s.size:=by
    have:=Wd.C9 hmem
    rw[Wd.aI] at this;omega
   have HLx:=hide (HL.out _ hmem)
   have HTK:Hid ((Wd.jE s.data.toList).take (k+1)=(Wd.jE s.data.toList).take k++[Wd.qG s.data.toList ((Wd.starts s.data.toList).getD k 0)]):=by
    apply hide
    rw[List.take_add_one,HUR.out,List.getElem?_map,hget];rfl
   have htl:((Wd.jE s.data.toList).take k).length<=240:=by
    rw[HUR.out];simp;omega
   generalize hx:(Wd.starts s.data.toList).getD k 0=x at *
   have c1:=(HB.out.cell (p:=⟨g,k,none⟩) hg2).trans hc1
   have HO1:=hide (dw HB.out A1.out)
   have hxs:x<s.size:=by omega
   have HAT:=hide (Wd.dz s x hxs)
   have b0:=Wd.iL s.data.toList x
   have b1:=Wd.iD s.data.toList x
   rw[<-HAT.out] at b0 b1
   clear hx hc1 hget hmem
   go_wp2_with fail
   refine (rJ s x _ (by omega) hst).mono ?_
   rintro e w6 ⟨t,rfl,ht,hts,rfl⟩
   have HT:=hide ht
   clear ht
   go_wp2_with (refine wpList_load_row rfl 53 _ rfl _ rfl 53 _ (0,0) _ HO1.out Tryz.underlying53 rfl Tryz.i33 ?_)
   refine (Jo s t _ _ (by omega) (Wd.rD _ 8) (Wd.Kk _) (by rw[HT.out];exact HLx.out)).mono ?_
   rintro e w7 ⟨u,rfl,hu,hb7⟩
   have HU:=hide hu
   have HB7:=hide (HB.out.trans (hb7.mono HB.out.size))
   have c2:=(HB7.out.cell (p:=⟨g,k,none⟩) hg2).trans (((HB.out.cell (p:=⟨g,k,none⟩) hg2).symm.trans c1))
   have HO7:=hide (own_below HO.out hb7)
   have c2':∀o,(w7.alloc o).cell? ⟨g,k,none⟩=some (.int .i64 (x:Int)):=fun o=>by rw[World.cell?_alloc_past _ _ _ (World.block_lt_of_cell? w7 _ c2)];exact c2
   clear hu hb7 c1
   go_wp2_with (at_builtin;refine wpList_append_own _ rfl _ _ 32 rfl w5.heap.size 37 i0 (.agg #[.bool false,.string ByteArray.empty]) 2 24 Tryz.underlying32 hi hz0 hz1 hz2 rfl (by decide) _ _ _ rfl (HO7.out.alloc _) ⟨_,0,none⟩ 1 1 [.bool (((s[x].toNat:Nat):Int)==104),.string u] rfl rfl (cell_two_new _ _ _ _) (fun y hy=>by simp at hy;rcases hy with rfl|rfl<;>rfl) (by unfold maxLen;omega) (by omega) (by have:=HB7.out.size;simp;omega) ?_;intro v' w8 hown' hgrow3 hnil3;have HG:=hide hgrow3;have HW:=hide hown';clear hgrow3 hown' hnil3)
   refine ⟨⟨k+1,by omega,by go_num,(HB7.out.alloc HB7.out.size _).grown HG.out (by have:=HB7.out.size;simp;omega) (fun q hq=>(HO7.out.lt q hq).1),?_⟩,by simp[intOf];omega⟩
   rw[HTK.out,Wd.DZ,List.length_append]
   have e1:Wd.itV (Wd.qG s.data.toList x)=[.bool (((s[x].toNat:Nat):Int)==104),.string u]:=by
    simp only[Wd.itV,Wd.qG,<-HAT.out,<-HT.out,<-HU.out,Wd.SE]
   rw[e1]
   exact HW.out
  ·go_wp2_with fail
   go_ret2
   refine ⟨_,rfl,?_,A2.out.trans (HB.out.mono A2.out.size)⟩
   obtain rfl:k=n:=by omega
   have e:(Wd.jE s.data.toList).take k=Wd.jE s.data.toList:=List.take_of_length_le (by rw[HUR.out];simp[HN.out])
   have:=HO.out
   rw[e] at this
   exact iH this A2.out.size
namespace Wd
theorem jf {l:List UInt8}{x:Int×Int}(h:aF l=.error x):x.1≠0:=by
 unfold aF at h
 repeat' (split at h)
 all_goals (cases h)
 all_goals simp
def jv (G:Nat->Fn)(c:UInt8):List UInt8:=if up (bt c)=true then (G (bt c-65).toNat).text else [c]
def exp (G:Nat->Fn)(b:List UInt8):List UInt8:=b.flatMap (jv G)
theorem vO (G:Nat->Fn)(b acc x:List UInt8)(h:unf G b acc=some x):x=acc++exp G b:=by
 induction b generalizing acc with
 | nil=>simp[unf] at h;simp[exp,h]
 | cons c r ih =>
  unfold unf at h
  split at h
  ·next hu =>
   split at h
   ·split at h
    ·cases h
    ·rw[ih _ h];simp[exp,jv,hu]
   ·cases h
  ·next hu =>
   split at h
   ·cases h
   ·rw[ih _ h];simp[exp,jv,hu]
theorem Bv {f g:UInt8->List UInt8}(b:List UInt8)(h:∀c∈b,f c=g c):b.flatMap f=b.flatMap g:=by
 induction b with
 | nil=>rfl
 | cons c r ih=>rw[List.flatMap_cons,List.flatMap_cons,h c (by simp),ih (fun x hx=>h x (by simp[hx]))]
theorem NQ {G H:Nat->Fn}(b:List UInt8)(h:∀c∈b,up (bt c)=true->H (bt c-65).toNat=G (bt c-65).toNat):exp H b=exp G b:=by
 apply Bv
 intro c hc
 unfold jv
 split
 ·next hu=>rw[h c hc hu]
 ·rfl
theorem Bh {G:Nat->Fn}{j:Nat}(h:(G j).done=true)(n:Nat):dh G n j=G j:=by
 unfold dh
 split
 ·next hc =>
  have hne:¬j=n:=fun e=>by rw[e,hc.2.1] at h;cases h
  simp only[if_neg hne]
 ·rfl
def qH (F G:Nat->Fn):Prop:=nE G F/\∀j,(G j).done=true->(∀c∈(F j).body,up (bt c)=true->(G (bt c-65).toNat).done=true)/\((G j).fits=true->(G j).text=exp G (F j).body)
theorem Ic {F G:Nat->Fn}(h:qH F G)(n:Nat):qH F (dh G n):=by
 refine ⟨uj h.1 n,?_⟩
 intro j hd
 have hkeep:∀b:List UInt8,(∀c∈b,up (bt c)=true->(G (bt c-65).toNat).done=true)->(∀c∈b,up (bt c)=true->(dh G n (bt c-65).toNat).done=true)/\exp (dh G n) b=exp G b:=fun b hb =>
  ⟨fun c hc hu=>xk (hb c hc hu) n,NQ b (fun c hc hu=>Bh (hb c hc hu) n)⟩
 by_cases hdj:(G j).done=true
 ·obtain ⟨h1,h2⟩:=h.2 j hdj
  obtain ⟨k1,k2⟩:=hkeep _ h1
  refine ⟨k1,?_⟩
  rw[Bh hdj,k2]
  exact h2
 ·by_cases hc:(G n).there=true/\(G n).done=false/\jO G (G n).body=true
  ·have e0:dh G n=fun j=>if j=n then eY G (G n) else G j:=by unfold dh;rw[if_pos hc]
   by_cases e:j=n
   ·subst e
    have hall:=(rq G (G j).body).1 hc.2.2
    rw[(h.1 j).2] at hall
    obtain ⟨k1,k2⟩:=hkeep _ hall
    refine ⟨k1,?_⟩
    rw[k2]
    have e1:dh G j j=eY G (G j):=by rw[e0];simp
    rw[e1]
    unfold eY unfold
    rw[(h.1 j).2]
    cases hq:unf G (F j).body [] with
    | none=>intro hf;cases hf
    | some x=>intro _;simpa using vO G _ [] x hq
   ·exfalso
    rw[e0] at hd
    simp only[if_neg e] at hd
    exact hdj hd
  ·exfalso
   unfold dh at hd
   rw[if_neg hc] at hd
   exact hdj hd
theorem IV {F G:Nat->Fn}(h:qH F G)(n:Nat):qH F (fF G n):=by
 induction n with
 | zero=>exact h
 | succ n ih=>exact Ic ih n
theorem Ip {F:Nat->Fn}(hI:Init F)(r:Nat):qH F (bJ F r):=by
 induction r with
 | zero=>exact ⟨fun j=>⟨rfl,rfl⟩,fun j hd=>by rw[show bJ F 0=F from rfl,hI.zO j] at hd;cases hd⟩
 | succ r ih=>exact IV ih 8
def wt (V:Nat->Int)(c:UInt8):Int:=if up (bt c)=true then V (bt c-65).toNat else 1
def fV (V:Nat->Int):List UInt8->Int
 | []=>0
 | c::r=>wt V c+fV V r
theorem Gd {V:Nat->Int}(hV:∀j,0<=V j)(c:UInt8):0<=wt V c:=by
 unfold wt;split
 ·exact hV _
 ·omega
theorem Ry {V:Nat->Int}(hV:∀j,0<=V j)(b:List UInt8):0<=fV V b:=by
 induction b with
 | nil=>simp[fV]
 | cons c r ih=>have:=Gd hV c;simp only[fV];omega
theorem EF (V:Nat->Int)(a b:List UInt8):fV V (a++b)=fV V a+fV V b:=by
 induction a with
 | nil=>simp[fV]
 | cons c r ih=>simp only[List.cons_append,fV,ih];omega
theorem BS {V:Nat->Int}(b:List UInt8)(n:Int)(h:eX V b n<=300):eX V b n=n+fV V b:=by
 induction b generalizing n with
 | nil=>simp[eX,fV]
 | cons c r ih =>
  have hp:plus V n (bt c)=n+wt V c:=by unfold plus wt;split<;>rfl
  simp only[eX,hp] at h ⊢
  split at h
  ·omega
  ·next hg =>
   rw[if_neg hg,ih _ h]
   simp only[fV];omega
structure rZ (l:List UInt8)(F G:Nat->Fn)(V:Nat->Int):Prop where
 pos:∀j,0<=V j
 fix:∀j,j<8->(F j).there=true->V j=size (F j).body V
 there:∀f c,c∈(F f).body->up (bt c)=true->(F (bt c-65).toNat).there=true
 done:∀j,j<8->(F j).there=true->(G j).done=true
 fits:Fits F V G
 texts:qH F G
 irr:∀i,i<8->reach (dK F) i i=false
 body:∀c:UInt8,up (bt c)=true->(F (bt c-65).toNat).there=true->0<V (bt c-65).toNat->fJ l V c=(F (bt c-65).toNat).body
 short:∀j,(F j).body.length<=240
def Good (F:Nat->Fn)(V:Nat->Int)(b:List UInt8):Prop:=(∀c∈b,up (bt c)=true->(F (bt c-65).toNat).there=true)/\fV V b<=300
theorem LU {l:List UInt8}{F G:Nat->Fn}{V:Nat->Int}(H:rZ l F G V)(c:UInt8)(hc:up (bt c)=true->(F (bt c-65).toNat).there=true)(hw:wt V c<=300) :
  fV V (fJ l V c)=wt V c/\(∀x∈fJ l V c,up (bt x)=true->(F (bt x-65).toNat).there=true)/\exp G (fJ l V c)=jv G c/\((fJ l V c).length:Int)<=240*wt V c /\
  (∀k,(up (bt c)=true->count (dK F) (bt c-65).toNat<k+1)->∀x∈fJ l V c,up (bt x)=true->count (dK F) (bt x-65).toNat<k):=by
 cases hu:up (bt c) with
 | false =>
  have hne:¬up (bt c)=true:=by rw[hu];simp
  have e:fJ l V c=[c]:=by unfold fJ;rw[if_neg hne]
  rw[e]
  refine ⟨by simp[fV],?_,by simp[exp],by unfold wt;rw[if_neg hne];simp,?_⟩
  ·intro x hx hxu;simp at hx;subst hx;exact absurd hxu hne
  ·intro k _ x hx hxu;simp at hx;subst hx;exact absurd hxu hne
 | true =>
  have hu':=(dA _).1 hu
  have hg:(bt c-65).toNat<8:=by omega
  have ht:=hc hu
  have hwt:wt V c=V (bt c-65).toNat:=by unfold wt;rw[if_pos hu]
  rw[hwt] at hw ⊢
  obtain ⟨f1,f2⟩:=H.fits.2 _ hg (H.done _ hg ht)
  have hft:=f1.2 hw
  have hlen:=f2 hft
  have htx:=(H.texts.2 _ (H.done _ hg ht)).2 hft
  have hec:jv G c=(G (bt c-65).toNat).text:=by unfold jv;rw[if_pos hu]
  by_cases hp:0<V (bt c-65).toNat
  ·have e:=H.body c hu ht hp
   rw[e]
   have hfix:=H.fix _ hg ht
   unfold size at hfix
   have hsum:=BS (V:=V) (F (bt c-65).toNat).body 0 (by omega)
   refine ⟨by omega,fun x hx hxu=>H.there _ x hx hxu,by rw[hec,htx],?_,?_⟩
   ·have:=H.short (bt c-65).toNat;omega
   ·intro k hk x hx hxu
    have U9:=(dA _).1 hxu
    have hgx:(bt x-65).toNat<8:=by omega
    have hb:dK F ((bt c-65).toNat*8+(bt x-65).toNat)=true:=by
     rw[rQ F _ _ hg hgx,rf];exact ⟨x,hx,by omega⟩
    have:=yU H.irr hg hgx hb
    have:=hk rfl
    omega
  ·have hz:V (bt c-65).toNat=0:=by have:=H.pos (bt c-65).toNat;omega
   have e:fJ l V c=[]:=by unfold fJ;rw[if_pos hu,if_neg hp]
   rw[e,hz]
   refine ⟨rfl,by simp,?_,by simp,by simp⟩
   rw[hec]
   have:(G (bt c-65).toNat).text.length=0:=by omega
   rw[List.eq_nil_of_length_eq_zero this];rfl
theorem NR {l:List UInt8}{F G:Nat->Fn}{V:Nat->Int}(H:rZ l F G V)(b:List UInt8)(hb:Good F V b) :
  fV V (pass l V b)=fV V b/\Good F V (pass l V b)/\exp G (pass l V b)=exp G b/\((pass l V b).length:Int)<=240*fV V b /\
  (∀k,(∀c∈b,up (bt c)=true->count (dK F) (bt c-65).toNat<k+1)->∀x∈pass l V b,up (bt x)=true->count (dK F) (bt x-65).toNat<k):=by
 induction b with
 | nil=>exact ⟨rfl,hb,rfl,by simp[pass,fV],by simp[pass]⟩
 | cons c r ih =>
  obtain ⟨h1,h2⟩:=hb
  have w1:=Gd H.pos c
  have w2:=Ry H.pos r
  simp only[fV] at h2
  obtain ⟨i1,i2,i3,i4,i5⟩:=ih ⟨fun x hx=>h1 x (by simp[hx]),by omega⟩
  obtain ⟨p1,p2,p3,p4,p5⟩:=LU H c (h1 c (by simp)) (by omega)
  have e:pass l V (c::r)=fJ l V c++pass l V r:=rfl
  rw[e]
  refine ⟨by rw[EF,p1,i1];rfl,⟨?_,by rw[EF,p1,i1];omega⟩,?_,?_,?_⟩
  ·intro x hx hxu
   simp only[List.mem_append] at hx
   rcases hx with hx|hx
   ·exact p2 x hx hxu
   ·exact i2.1 x hx hxu
  ·have:exp G (fJ l V c++pass l V r)=exp G (fJ l V c)++exp G (pass l V r):=by simp[exp]
   rw[this,p3,i3];rfl
  ·simp only[List.length_append,fV];omega
  ·intro k hk x hx hxu
   simp only[List.mem_append] at hx
   rcases hx with hx|hx
   ·exact p5 k (hk c (by simp)) x hx hxu
   ·exact i5 k (fun y hy=>hk y (by simp[hy])) x hx hxu
theorem Dj {l:List UInt8}{F G:Nat->Fn}{V:Nat->Int}(H:rZ l F G V)(b:List UInt8)(hb:Good F V b)(hl:b.length<=240)(p:Nat)(hp:p<=8) :
  Good F V (gI l V b p)/\exp G (gI l V b p)=exp G b/\(gI l V b p).length<=100000/\(∀c∈gI l V b p,up (bt c)=true->count (dK F) (bt c-65).toNat<8-p):=by
 induction p with
 | zero =>
  refine ⟨hb,rfl,by simp only[gI];omega,?_⟩
  intro c hc hu
  have hu':=(dA _).1 hu
  exact qi H.irr (by omega)
 | succ p ih =>
  obtain ⟨i1,i2,i3,i4⟩:=ih (by omega)
  obtain ⟨q1,q2,q3,q4,q5⟩:=NR H _ i1
  have:=i1.2
  refine ⟨q2,by rw[gI,q3,i2],by simp only[gI];omega,?_⟩
  exact q5 (8-(p+1)) (fun c hc hu=>by have:=i4 c hc hu;omega)
theorem NS {l:List UInt8}{F G:Nat->Fn}{V:Nat->Int}(H:rZ l F G V)(b:List UInt8)(hb:Good F V b)(hl:b.length<=240):gI l V b 8=exp G b:=by
 obtain ⟨i1,i2,i3,i4⟩:=Dj H b hb hl 8 (by omega)
 rw[<-i2]
 have:∀c∈gI l V b 8,jv G c=[c]:=by
  intro c hc
  unfold jv
  rw[if_neg]
  intro hu
  have:=i4 c hc hu
  omega
 unfold exp
 rw[Bv _ this]
 simp
theorem Jp (G:Nat->Fn)(ts:List Part)(hup:∀p∈ts,up p.letter=false)(acc its:List It)(h:dR G ts acc=.ok its) :
  its=acc++ts.map (fun p=>⟨p.letter==104,exp G p.body⟩)/\∀p∈ts,∃x,unf G p.body []=some x:=by
 induction ts generalizing acc with
 | nil=>simp[dR] at h;simp[h]
 | cons p r ih =>
  have hne:¬up p.letter=true:=by rw[hup p (by simp)];simp
  simp only[dR,if_neg hne,unfold] at h
  cases hq:unf G p.body [] with
  | none=>rw[hq] at h;cases h
  | some x =>
   rw[hq] at h
   simp only at h
   obtain ⟨i1,i2⟩:=ih (fun q hq=>hup q (by simp[hq])) _ h
   have hx:=vO G _ [] x hq
   simp only[List.nil_append] at hx
   refine ⟨by rw[i1,hx];simp,?_⟩
   intro q hqm
   simp only[List.mem_cons] at hqm
   rcases hqm with e|e
   ·subst e;exact ⟨x,hq⟩
   ·exact i2 q e
theorem yc {l:List UInt8}{its:List It}(h:aF l=.ok its):l.length<=240/\its=jE l/\its.length<=240/\∀i∈starts l,∀p,p<=8->(gI l (aU l 8) (body l i) p).length<=100000:=by
 by_cases hbig:240<l.length
 ·rw[uM hbig] at h;cases h
 cases hf:fault l with
 | some i=>rw[uN hbig hf] at h;cases h
 | none =>
  obtain ⟨rs,rfl,hr⟩:=EB hf
  have hns:=uP rs hr
  cases hn:fD (flat rs) with
  | some i=>rw[hn] at hns;rw[uO hbig hf hns] at h;cases h
  | none =>
   rw[hn] at hns
   have hrs:=Di rs hr hn
   cases hrd:round (flat rs) with
   | true=>rw[hrd] at hrs;rw[uH hbig hf hns hrs] at h;cases h
   | false =>
    rw[hrd] at hrs
    cases hq:items (bJ (split (flat rs)).F 8) (split (flat rs)).ps with
    | error n=>rw[uX hbig hf hns hrs hq] at h;cases h
    | ok Ug =>
     rw[vo hbig hf hns hrs hq] at h
     cases h
     obtain ⟨hI,hth⟩:=vM rs hr hn
     have eG:∀i,i<8->reach (dK (bR rs)) i i=false:=by
      intro i hi
      cases hq2:reach (dK (bR rs)) i i with
      | false=>rfl
      | true =>
       exfalso
       have:round (flat rs)=true:=by
        rw[round,xZ rs hr hn,yA];exact ⟨i,hi,hq2⟩
       rw[this] at hrd;cases hrd
     have hV:∀j,0<=aU (flat rs) 8 j:=fun j=>(rD _ 8 j).1
     have hfix:=D7 rs hr hn eG
     have hF:=Bu hI hV hfix 8
     have lU:=qb rs [] hr
     simp only[List.nil_append,List.length_nil] at lU
     have H:rZ (flat rs) (bR rs) (bJ (bR rs) 8) (aU (flat rs) 8):=by
      refine ⟨hV,hfix,hI.there,fun j hj ht=>um hI eG 8 j hj ht (qi eG hj),hF,Ip hI 8,eG,?_,?_⟩
      ·intro c hu ht hp
       have hu':=(dA _).1 hu
       unfold fJ
       rw[if_pos hu,if_pos hp]
       rcases oz rs hr hn (bt c-65).toNat (by omega) with ⟨p,hpm,_,e,hh,hb⟩ | ⟨e,hh⟩
       ·rw[show (65+(((bt c-65).toNat:Nat):Int))=bt c from by omega] at hh
        rw[hh,e];exact hb
       ·rw[e] at ht;cases ht
      ·intro j
       by_cases hj:j<8
       ·rcases oz rs hr hn j hj with ⟨p,hpm,_,e,_,_⟩ | ⟨e,_⟩
        ·rw[e]
         have:=(lU p hpm).2.2.2.2.2
         simp only;omega
        ·rw[e];simp[fn0]
       ·rw[vL rs j hj];simp[fn0]
     rw[ol rs hr] at hq
     have hq':dR (bJ (bR rs) 8) (dM (lay 0 rs)) []=.ok its:=by rw[<-Bg];exact hq
     have hup:∀p∈dM (lay 0 rs),up p.letter=false:=fun p hp=>by simp[dM] at hp;exact hp.2
     have hin:∀p∈dM (lay 0 rs),p∈lay 0 rs:=fun p hp=>by simp only[dM,List.mem_filter] at hp;exact hp.1
     obtain ⟨t1,t2⟩:=Jp _ _ hup _ _ hq'
     have hgood:∀p∈dM (lay 0 rs),Good (bR rs) (aU (flat rs) 8) p.body/\p.body.length<=240:=by
      intro p hp
      have hpl:=hin p hp
      refine ⟨⟨fun c hc hu=>hth p hpl c hc hu,?_⟩,by have:=(lU p hpl).2.2.2.2.2;omega⟩
      obtain ⟨x,hx⟩:=t2 p hp
      obtain ⟨u1,u2⟩:=yV hF hV p.body [] (fun c hc hu=>by
       have hu':=(dA _).1 hu
       exact um hI eG 8 _ (by omega) (hth p hpl c hc hu) (qi eG (by omega))) (by simp)
      simp only[List.length_nil,Int.natCast_zero] at u1 u2
      have hle:eX (aU (flat rs) 8) p.body 0<=300:=by
       apply Classical.byContradiction
       intro hgt
       rw[u2 (by omega)] at hx;cases hx
      have:=BS (V:=aU (flat rs) 8) p.body 0 hle
      omega
     have hst:=D8 rs hr
     refine ⟨by omega,?_,?_,?_⟩
     ·rw[t1,List.nil_append,jE,hst,List.map_map]
      apply List.map_congr_left
      intro p hp
      obtain ⟨f1,f2,_⟩:=lU p (hin p hp)
      obtain ⟨g1,g2⟩:=hgood p hp
      simp only[Function.comp,qG,f1,f2,NS H p.body g1 g2]
     ·rw[t1]
      have:=uw (flat rs) (flat rs).length
      have e2:(starts (flat rs)).length=(dM (lay 0 rs)).length:=by rw[hst];simp
      have e3:(starts (flat rs)).length<=(flat rs).length:=this
      simp only[List.nil_append,List.length_map];omega
     ·intro i hi p hp
      rw[hst,List.mem_map] at hi
      obtain ⟨q,hq2,rfl⟩:=hi
      obtain ⟨g1,g2⟩:=hgood q hq2
      rw[(lU q (hin q hq2)).2.1]
      exact (Dj H q.body g1 g2 p hp).2.2.1
end Wd
end Go.Proofs.YtecmfdkhcffpmaaGreat
