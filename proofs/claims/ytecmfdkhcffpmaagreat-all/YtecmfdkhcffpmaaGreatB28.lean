/- ProgJ, ProgK. -/
import Derived.Test.YtecmfdkhcffpmaaGreatB27
namespace Go.Proofs.YtecmfdkhcffpmaaGreat
open Go.RowKit
set_option linter.unusedVariables false
set_option linter.unusedSimpArgs false
set_option linter.unusedSectionVars false
set_option maxHeartbeats 8000000
set_option maxRecDepth 100000
section
open Mc
def aP (its:List Wd.It)(lg:Nat->Nat)(f:Fr)(o:Bool):Array Value:=(fpV its lg f o).toArray
theorem yM (its:List Wd.It)(lg:Nat->Nat)(f:Fr)(o:Bool):(aP its lg f o).size=13:=rfl
theorem nk (its:List Wd.It)(lg:Nat->Nat)(f:Fr)(o:Bool):(aP its lg f o).all (·.oneCell')=true:=vV its lg f o
theorem Tryz.iFrmA (its:List Wd.It)(lg:Nat->Nat)(f:Fr)(o:Bool):(Tryz.prog.info? 93).map (·.size)=some (aP its lg f o).size:=Tryz.iFrameP
theorem iW {w:World}{g:Nat}{t:TypeId}{its:List Wd.It}{lg:Nat->Nat}{f:Fr}{o:Bool}(h:Row w g (aP its lg f o) t):w.rangeAt g 2 [.bool (f.there&&isH its f.item),.string (Wd.mkS (fb its f)),.slice (fl its lg f) (fb its f).length (fb its f).length]:=by
 refine h.range 2 _ fun j v hj=>?_
 have hl:j<3:=(List.getElem?_eq_some_iff.1 hj).1
 rw[<-hj]
 rcases j with _|_|_|j<;>first|rfl|omega
theorem yN {w:World}{g:Nat}{t:TypeId}{its:List Wd.It}{lg:Nat->Nat}{f:Fr}{o:Bool}(h:Row w g (aP its lg f o) t):w.rangeAt g 5 (stA f.pos f.held o).toList:=by
 refine h.range 5 _ fun j v hj=>?_
 have hl:j<8:=(List.getElem?_eq_some_iff.1 hj).1
 rw[<-hj]
 rcases j with _|_|_|_|_|_|_|_|j<;>first|rfl|omega
theorem iC {w:World}{g:Nat}{t:TypeId}{its:List Wd.It}{lg:Nat->Nat}{f:Fr}{o:Bool}(h:Row w g (aP its lg f o) t):w.cell? ⟨g,5,none⟩=some (.int .i64 (f.pos:Int)):=h.cell 5 rfl
theorem rG {w:World}{g:Nat}{t:TypeId}{its:List Wd.It}{lg:Nat->Nat}{f:Fr}{o:Bool}(h:Row w g (aP its lg f o) t):w.cell? ⟨g,0,none⟩=some (.bool f.there):=h.cell 0 rfl
theorem za {w:World}{g:Nat}{t:TypeId}{its:List Wd.It}{lg:Nat->Nat}{f:Fr}{o:Bool}(h:Row w g (aP its lg f o) t):w.cell? ⟨g,1,none⟩=some (.int .i64 (f.item:Int)):=h.cell 1 rfl
def atF (its:List Wd.It)(f:Fr):Int:=atB (fb its f) f.pos
def dG (its:List Wd.It)(f:Fr):Int:=aW (fb its f) f.pos
theorem zI {its:List Wd.It}(ho:bf its){hd:Bool}{f:Fr}(hf:gD its hd f):(fb its f).length<=10000/\f.pos<=20000/\bG (fb its f):=by
 unfold fb
 cases ht:f.there
 ·have:=hf.none ht
  rw[this]
  exact ⟨by simp,by simp[aH],fun p hp=>by simp at hp⟩
 ·have h1:=hf.item ht
  have h2:=hf.pos ht
  have h3:=ho.body _ h1
  simp only[if_true]
  exact ⟨h3,by omega,ho.pair _ h1⟩
theorem vD {its:List Wd.It}(ho:bf its){hd:Bool}{f:Fr}(hf:gD its hd f)(lg:Nat->Nat)(w:World) :
  Calls Tryz.prog 105 #[.agg #[.bool (f.there&&isH its f.item),.string (Wd.mkS (fb its f)),.slice (fl its lg f) (fb its f).length (fb its f).length],.int .i64 (f.pos:Int)] w fun e w'=>e=.returned (.int .u8 (atF its f))/\Below w.heap.size w w':=by
 have h:=zI ho hf
 exact iF _ (Wd.mkS (fb its f)) _ _ _ f.pos w (by rw[Wd.bN];exact h.1) h.2.1
theorem u7 {its:List Wd.It}(ho:bf its){hd:Bool}{f:Fr}(hf:gD its hd f)(lg:Nat->Nat)(w:World) :
  Calls Tryz.prog 129 #[.agg #[.bool (f.there&&isH its f.item),.string (Wd.mkS (fb its f)),.slice (fl its lg f) (fb its f).length (fb its f).length],.int .i64 (f.pos:Int)] w fun e w'=>e=.returned (.int .i64 (dG its f))/\Below w.heap.size w w':=by
 have h:=zI ho hf
 exact pO _ (Wd.mkS (fb its f)) _ _ _ f.pos w (by rw[Wd.bN];exact h.1) h.2.1 h.2.2
theorem wD {w:World}{b:Nat}{ai:Option Addr}{ci:Nat}{lg:Nat->Nat}{its:List Wd.It}{S:Ma}(h:PM w b ai ci lg its S)(c:Nat)(hc:c<3):w.rangeAt b (1+c*26) (fpV its lg (S.cp c).t (S.cp c).off):=by
 intro j v hj
 have hl:j<13:=(List.getElem?_eq_some_iff.1 hj).1
 rw[h.aC c j hc (by omega),pcF,if_pos hl,fpC,hj];rfl
theorem qD {w:World}{b:Nat}{ai:Option Addr}{ci:Nat}{lg:Nat->Nat}{its:List Wd.It}{S:Ma}(h:PM w b ai ci lg its S)(c:Nat)(hc:c<3):w.rangeAt b (1+c*26+13) (fpV its lg (S.cp c).h (S.cp c).h.there):=by
 intro j v hj
 have hl:j<13:=(List.getElem?_eq_some_iff.1 hj).1
 rw[Nat.add_assoc,h.aC c (13+j) hc (by omega),pcF,if_neg (by omega),fpC,show 13+j-13=j by omega,hj];rfl
theorem nX (w:World)(b:Nat)(ai:Option Addr)(ci:Nat)(lg:Nat->Nat)(its:List Wd.It)(S:Ma)(c:Nat)(h:PM w b ai ci lg its S)(hc:c<3) :
  Calls Tryz.prog 136 #[.pointer (some ⟨b,1+c*26,none⟩)] w fun e w'=>e=.returned (.agg (aP its lg (works S c) (aJ S c)))/\Below w.heap.size w w':=by
 have:=Ql w b (1+c*26) _ _ (S.cp c).h.there (wD h c hc) (qD h c hc) rfl rfl (vV _ _ _ _) (vV _ _ _ _) (qD h c hc 0 _ rfl)
 refine this.mono ?_
 rintro e w' ⟨rfl,hb⟩
 refine ⟨?_,hb⟩
 unfold aP works aJ
 cases hh:(S.cp c).h.there
 ·simp only[Bool.false_eq_true,if_false]
 ·simp only[if_true]
def kL (its:List Wd.It)(f:Fr):Int:=if atF its f=43 then dG its f else -1
theorem vW {its:List Wd.It}(ho:bf its){hd:Bool}{f:Fr}(hf:gD its hd f):-1<=dG its f/\dG its f<=5:=vR (zI ho hf).2.2 _
theorem Qn {its:List Wd.It}(ho:bf its){hd:Bool}{f:Fr}(hf:gD its hd f):-1<=kL its f/\kL its f<=5:=by
 have:=vW ho hf
 unfold kL;split<;>omega
theorem Tryz.uCodeR:∃d,Tryz.prog.underlying 88=some d/\d.isRow=true:=⟨_,Tryz.underlying88,rfl⟩
theorem Tryz.uStateR:∃d,Tryz.prog.underlying 91=some d/\d.isRow=true:=⟨_,Tryz.underlying91,rfl⟩
theorem Ms (w:World)(b:Nat)(ai:Option Addr)(ci:Nat)(lg:Nat->Nat)(its:List Wd.It)(S:Ma)(c:Int)(h:PM w b ai ci lg its S)(ho:bf its)(hi:Inv its 3 S)(h0:-1<=c)(h1:c<=2) :
  Calls Tryz.prog 152 #[.pointer (some ⟨b,0,none⟩),.int .i64 c] w fun e w'=>e=.returned (.int .i64 (if 0<=c then kL its (works S c.toNat) else -1))/\Below w.heap.size w w':=by
 by_cases hc:0<=c
 ·obtain ⟨k,rfl⟩:∃k:Nat,c=(k:Int):=⟨c.toNat,by omega⟩
  have hk:k<3:=by omega
  have AW:=hide (nX w b ai ci lg its S k h hk)
  have hfr:=iB hi k hk
  have AA:=hide (fun W=>vD ho hfr lg W)
  have AN:=hide (fun W=>u7 ho hfr lg W)
  have HW:Hid (kL its (works S k)=if atF its (works S k)=43 then dG its (works S k) else -1):=hide rfl
  rw[if_pos hc]
  simp only[Int.toNat_natCast]
  clear h hi ho hfr hc h0 h1
  generalize kL its (works S k)=wf at *
  generalize atF its (works S k)=ch at *
  generalize dG its (works S k)=nm at *
  generalize works S k=f at *
  generalize aJ S k=o at *
  obtain ⟨ud,hu,hdd⟩:=Tryz.uCodeR
  have HU:=hide hu
  have HD:=hide hdd
  clear hu hdd
  go_enter Tryz.func152,Tryz.ntmps152
  go_wp2_with fail
  go_at_call 136
  refine AW.out.mono ?_
  rintro e w1 ⟨rfl,hb1⟩
  have HB1:=hide hb1
  clear hb1
  by_cases h43:ch=43
  ·subst h43
   go_wp2_with (first|(refine wpList_load_mid rfl 88 _ rfl _ _ rfl [.bool (f.there&&isH its f.item),.string (Wd.mkS (fb its f)),.slice (fl its lg f) (fb its f).length (fb its f).length] ud ?_ HU.out HD.out Tryz.iCode ?_;(exact iW HR3.out))|(go_at_call 129;refine (AN.out _).mono ?_;rintro e w4 ⟨rfl,hb4⟩;have HR4:=hide (HR3.out.below hb4);have HB4:=hide (ak HB3.out hb4);have p4:=iC HR4.out;clear hb4)|(refine wpList_load_mid rfl 88 _ rfl _ _ rfl [.bool (f.there&&isH its f.item),.string (Wd.mkS (fb its f)),.slice (fl its lg f) (fb its f).length (fb its f).length] ud ?_ HU.out HD.out Tryz.iCode ?_;(exact iW HR2.out))|(go_at_call 105;refine (AA.out _).mono ?_;rintro e w3 ⟨rfl,hb3⟩;have HR3:=hide (HR2.out.below hb3);have HB3:=hide (ak HB2.out hb3);have p3:=iC HR3.out;clear hb3)|(refine wpList_store_row rfl 93 _ _ rfl w1.heap.size (aP its lg f o) rfl rfl 93 #[.bool false,.int .i64 0,.bool false,.string ⟨#[]⟩,.slice none 0 0,.int .i64 0,.bool false,.bool false,.bool false,.bool false,.bool false,.bool false,.bool false] ?_ (Tryz.iFrmA _ _ _ _) rfl (nk _ _ _ _) ?_;(exact (Row.new w1 #[.bool false,.int .i64 0,.bool false,.string ⟨#[]⟩,.slice none 0 0,.int .i64 0,.bool false,.bool false,.bool false,.bool false,.bool false,.bool false,.bool false] 93).raw);rw[World.setRow_alloc_new];have HR2:=hide (Row.new w1 (aP its lg f o) 93);have HB2:=hide (aL HB1.out (.cells (aP its lg f o) 93));generalize w1.alloc (.cells (aP its lg f o) 93)=w2 at *;have p2:=iC HR2.out))
   go_ret
   exact ⟨aO (by rw[HW.out];simp),HB4.out⟩
  ·have t43:(ch != 43)=true:=by simp[h43]
   have H43:=hide h43
   clear h43
   go_wp2_with (first|(refine wpList_load_mid rfl 88 _ rfl _ _ rfl [.bool (f.there&&isH its f.item),.string (Wd.mkS (fb its f)),.slice (fl its lg f) (fb its f).length (fb its f).length] ud ?_ HU.out HD.out Tryz.iCode ?_;(exact iW HR3.out))|(go_at_call 129;refine (AN.out _).mono ?_;rintro e w4 ⟨rfl,hb4⟩;have HR4:=hide (HR3.out.below hb4);have HB4:=hide (ak HB3.out hb4);have p4:=iC HR4.out;clear hb4)|(refine wpList_load_mid rfl 88 _ rfl _ _ rfl [.bool (f.there&&isH its f.item),.string (Wd.mkS (fb its f)),.slice (fl its lg f) (fb its f).length (fb its f).length] ud ?_ HU.out HD.out Tryz.iCode ?_;(exact iW HR2.out))|(go_at_call 105;refine (AA.out _).mono ?_;rintro e w3 ⟨rfl,hb3⟩;have HR3:=hide (HR2.out.below hb3);have HB3:=hide (ak HB2.out hb3);have p3:=iC HR3.out;clear hb3)|(refine wpList_store_row rfl 93 _ _ rfl w1.heap.size (aP its lg f o) rfl rfl 93 #[.bool false,.int .i64 0,.bool false,.string ⟨#[]⟩,.slice none 0 0,.int .i64 0,.bool false,.bool false,.bool false,.bool false,.bool false,.bool false,.bool false] ?_ (Tryz.iFrmA _ _ _ _) rfl (nk _ _ _ _) ?_;(exact (Row.new w1 #[.bool false,.int .i64 0,.bool false,.string ⟨#[]⟩,.slice none 0 0,.int .i64 0,.bool false,.bool false,.bool false,.bool false,.bool false,.bool false,.bool false] 93).raw);rw[World.setRow_alloc_new];have HR2:=hide (Row.new w1 (aP its lg f o) 93);have HB2:=hide (aL HB1.out (.cells (aP its lg f o) 93));generalize w1.alloc (.cells (aP its lg f o) 93)=w2 at *;have p2:=iC HR2.out))
   go_ret
   exact ⟨aO (by rw[HW.out,if_neg H43.out]),HB3.out⟩
 ·have e:c=-1:=by omega
  subst e
  clear h hi ho
  go_enter Tryz.func152,Tryz.ntmps152
  go_wp2
  go_ret
  exact ⟨rfl,Below.refl _ _⟩
def ig (its:List Wd.It)(S:Ma)(c:Nat):Nat->Int->Bool
 | 0,_=>false
 | m+1,l=>match gZ S l with
  | some d=>if d=c then true else ig its S c m (kL its (works S d))
  | none=>ig its S c m (-1)
theorem Mt {its:List Wd.It}{S:Ma}{c m:Nat}{l:Int}(h:gZ S l=none):ig its S c (m+1) l=ig its S c m (-1):=by simp[ig,h]
theorem Oo {its:List Wd.It}{S:Ma}{c m:Nat}{l:Int}(h:gZ S l=some c):ig its S c (m+1) l=true:=by simp[ig,h]
theorem Qo {its:List Wd.It}{S:Ma}{c m d:Nat}{l:Int}(h:gZ S l=some d)(hd:d≠c):ig its S c (m+1) l=ig its S c m (kL its (works S d)):=by simp[ig,h,hd]
theorem ES {S:Ma}{l:Int}{d:Nat}(h:gZ S l=some d):d<3:=by
 unfold gZ at h
 split at h
 ·exact yI h
 ·cases h
theorem Oq (w:World)(b:Nat)(ai:Option Addr)(ci:Nat)(lg:Nat->Nat)(its:List Wd.It)(S:Ma)(c:Nat)(l:Int)(h:PM w b ai ci lg its S)(ho:bf its)(hi:Inv its 3 S)(hc:c<3)(h0:-1<=l)(h1:l<=5) :
  Calls Tryz.prog 151 #[.pointer (some ⟨b,0,none⟩),.int .i64 c,.int .i64 l] w fun e w'=>e=.returned (.bool (ig its S c 3 l))/\Below w.heap.size w w':=by
 have HM:=hide h
 have HI:=hide hi
 have HO:=hide ho
 clear h hi ho
 go_enter Tryz.func151,Tryz.ntmps151
 go_wp2
 go_loopw [2,7] (fun a b wr=>∃(k:Nat) (l':Int),k<=3/\-1<=l'/\l'<=5/\a=.int .i64 l'/\b=.int .i64 k/\ig its S c 3 l=ig its S c (3-k) l'/\Below w.heap.size w wr) (fun _ b _=>3-(intOf b).toNat)
 case atStart=>exact ⟨0,l,by omega,h0,h1,rfl,rfl,rfl,Below.refl _ _⟩
 case round =>
  obtain ⟨k,l',hk,g0,g1,rfl,rfl,hp,hbe⟩:=hrel
  have HP:=hide hp
  have HB:=hide hbe
  have HM0:=hide (HM.out.below hbe)
  clear hp hbe
  by_cases hlt:k<3
  ·rw[show 3-k=(2-k)+1 by omega] at HP
   have A1:=hide (CJ wr b ai ci lg its S l' HM0.out HI.out g0 (by omega))
   have A2:=hide (fun (W:World) (x:Int) (hW:Below wr.heap.size wr W)=>Ms W b ai ci lg its S x (HM0.out.below hW) HO.out HI.out)
   cases ed:gZ S l' with
   | none =>
    have HR:=hide (Mt (its:=its) (c:=c) (m:=2-k) ed)
    rw[ed] at A1
    have A1':Hid (Calls Tryz.prog 150 #[.pointer (some ⟨b,0,none⟩),.int .i64 l'] wr fun e w'=>e=.returned (.int .i64 (-1))/\Below wr.heap.size wr w'):=A1
    have t1:((-1:Int)==(c:Int))=false:=by simp
    clear A1 ed
    go_wp2_with (first|(go_at_call 152;refine (A2.out _ (-1) hb1 (by omega) (by omega)).mono ?_;rintro e w2 ⟨rfl,hb2⟩)|(go_at_call 150;refine A1'.out.mono ?_;rintro e w1 ⟨rfl,hb1⟩))
    go_round
    case rel=>exact ⟨k+1,-1,by omega,by omega,by omega,rfl,by go_num,by rw[HP.out,HR.out,show 3-(k+1)=2-k by omega],ak (ak HB.out hb1) hb2⟩
    case measure=>simp[intOf];omega
   | some d =>
    rw[ed] at A1
    have A1':Hid (Calls Tryz.prog 150 #[.pointer (some ⟨b,0,none⟩),.int .i64 l'] wr fun e w'=>e=.returned (.int .i64 (d:Int))/\Below wr.heap.size wr w'):=A1
    have hd3:=ES ed
    have ED:=hide ed
    clear A1 ed
    by_cases hdc:d=c
    ·subst hdc
     have HR:=hide (Oo (its:=its) (m:=2-k) ED.out)
     have t1:((d:Int)==(d:Int))=true:=by simp
     go_wp2_with (first|(go_at_call 150;refine A1'.out.mono ?_;rintro e w1 ⟨rfl,hb1⟩))
     go_ret
     exact ⟨bW (by rw[HP.out,HR.out]),ak HB.out hb1⟩
    ·have t1:((d:Int)==(c:Int))=false:=by simp;omega
     have HR:=hide (Qo (its:=its) (m:=2-k) ED.out hdc)
     have hwb:=Qn HO.out (iB HI.out d hd3)
     have A3:Hid (∀(W:World),Below wr.heap.size wr W->Calls Tryz.prog 152 #[.pointer (some ⟨b,0,none⟩),.int .i64 (d:Int)] W fun e w'=>e=.returned (.int .i64 (kL its (works S d)))/\Below W.heap.size W w'):=hide fun W hW=>by
      have:=A2.out W (d:Int) hW (by omega) (by omega)
      rwa [if_pos (show (0:Int)<=(d:Int) by omega),Int.toNat_natCast] at this
     clear A2
     generalize kL its (works S d)=wf at *
     go_wp2_with (first|(go_at_call 152;refine (A3.out _ hb1).mono ?_;rintro e w2 ⟨rfl,hb2⟩)|(go_at_call 150;refine A1'.out.mono ?_;rintro e w1 ⟨rfl,hb1⟩))
     go_round
     case rel=>exact ⟨k+1,wf,by omega,by omega,by omega,rfl,by go_num,by rw[HP.out,HR.out,show 3-(k+1)=2-k by omega],ak (ak HB.out hb1) hb2⟩
     case measure=>simp[intOf];omega
  ·go_wp2
   go_ret
   exact ⟨bW (by rw[HP.out,show 3-k=0 by omega];rfl),HB.out⟩
end
section
open Mc
def zR (x:Bool):Int:=if x=true then 82 else 0
def clP (its:List Wd.It)(S:Ma)(c:Nat)(what cell:Int)(d:Nat):Bool:=(((d:Int) != (c:Int))&&((atF its (works S d)==119)||((atF its (works S d)==114)&&(what==119))))&&(dG its (works S d)==cell)
theorem Dw {its:List Wd.It}{hd:Bool}{f:Fr}(hf:gD its hd f):(f.there=true/\atF its f=stands its f/\fb its f=ah its f.item)\/(stands its f=95/\atF its f=101):=by
 unfold atF stands fb
 cases ht:f.there
 ·right;rw[hf.none ht];simp[atB,aH]
 ·left;simp
theorem Tg {its:List Wd.It}{S:Ma}{c d:Nat}{what cell:Int}{hd:Bool}(hf:gD its hd (works S d))(hw:what=114\/what=119):clP its S c what cell d=fP its S c cell what d:=by
 unfold clP fP
 simp only
 rcases Dw hf with ⟨h1,h2,h3⟩ | ⟨h1,h2⟩
 ·rw[h2]
  have hn:stands its (works S d)=114\/stands its (works S d)=119->dG its (works S d)=num (ah its (works S d).item) (works S d).pos:=by
   intro h
   have ha:atB (ah its (works S d).item) (works S d).pos=stands its (works S d):=by rw[<-h2,atF,h3]
   unfold dG aW
   rw[h3,if_pos (by rw[ha];omega)]
  by_cases e1:stands its (works S d)=114
  ·rw[hn (Or.inl e1),e1,Bool.eq_iff_iff];rcases hw with e|e<;>simp[e]<;>omega
  ·by_cases e2:stands its (works S d)=119
   ·rw[hn (Or.inr e2),e2,Bool.eq_iff_iff];rcases hw with e|e<;>simp[e]<;>omega
   ·simp[e1,e2]
 ·rw[h1,h2];simp
theorem vE {its:List Wd.It}{f:Fr}(h:f.there=true):fb its f=ah its f.item:=by simp[fb,h]
theorem Mv (w:World)(b:Nat)(ai:Option Addr)(ci:Nat)(lg:Nat->Nat)(its:List Wd.It)(S:Ma)(c:Nat)(f:Fr)(o hd:Bool)(h:PM w b ai ci lg its S)(ho:bf its)(hi:Inv its 3 S)(hc:c<3)(hf:gD its hd f)(hw:atF its f=114\/atF its f=119) :
  Calls Tryz.prog 149 #[.pointer (some ⟨b,0,none⟩),.int .i64 c,.agg (aP its lg f o)] w fun e w'=>e=.returned (.int .u8 (zR (dO its S c (dG its f) (atF its f) 0 3)))/\Below w.heap.size w w':=by
 have HM:=hide h
 have HI:=hide hi
 have HO:=hide ho
 have AA:=hide (fun W=>vD ho hf lg W)
 have AN:=hide (fun W=>u7 ho hf lg W)
 have hnb:=vW ho hf
 have HCL:=hide (fun d hd'=>Tg (its:=its) (S:=S) (c:=c) (d:=d) (cell:=dG its f) (hd:=(S.cp d).h.there) hd' hw)
 clear h hi ho hf hw
 generalize atF its f=ch at *
 generalize dG its f=nm at *
 obtain ⟨ud,hu,hdd⟩:=Tryz.uCodeR
 have HU:=hide hu
 have HD:=hide hdd
 clear hu hdd
 have HF0:=hide (Row.new w (aP its lg f o) 93)
 have HB0:=hide (aD w (.cells (aP its lg f o) 93))
 have p0:=iC HF0.out
 go_enter Tryz.func149,Tryz.ntmps149
 go_wp2_with (first|(refine wpList_load_mid rfl 88 _ rfl _ _ rfl [.bool (f.there&&isH its f.item),.string (Wd.mkS (fb its f)),.slice (fl its lg f) (fb its f).length (fb its f).length] ud ?_ HU.out HD.out Tryz.iCode ?_;(exact iW HF1.out))|(go_at_call 129;refine (AN.out _).mono ?_;rintro e w2 ⟨rfl,hb2⟩;have HF2:=hide (HF1.out.below hb2);have HB2:=hide (ak HB1.out hb2);have p2:=iC HF2.out;clear hb2)|(refine wpList_load_mid rfl 88 _ rfl _ _ rfl [.bool (f.there&&isH its f.item),.string (Wd.mkS (fb its f)),.slice (fl its lg f) (fb its f).length (fb its f).length] ud ?_ HU.out HD.out Tryz.iCode ?_;(exact iW HF0.out))|(go_at_call 105;refine (AA.out _).mono ?_;rintro e w1 ⟨rfl,hb1⟩;have HF1:=hide (HF0.out.below hb1);have HB1:=hide (ak HB0.out hb1);have p1:=iC HF1.out;clear hb1))
 clear p0 p1 p2 HF0 HF1 HB0 HB1 AA AN
 go_loopw [9] (fun a wr=>∃k:Nat,k<=3/\a=.int .i64 k/\dO its S c nm ch 0 3=dO its S c nm ch k (3-k)/\Below w.heap.size w wr) (fun a _=>3-(intOf a).toNat)
 case atStart=>exact ⟨0,by omega,rfl,rfl,HB2.out⟩
 case round =>
  obtain ⟨k,hk,rfl,hp,hbe⟩:=hrel
  have HP:=hide hp
  have HB3:=hide hbe
  have HM3:=hide (HM.out.below hbe)
  clear hp hbe
  by_cases hlt:k<3
  ·have hgf:=iB HI.out k hlt
   have AW:=hide (nX wr b ai ci lg its S k HM3.out hlt)
   have BA:=hide (fun W=>vD HO.out hgf lg W)
   have BN:=hide (fun W=>u7 HO.out hgf lg W)
   have hgb:=vW HO.out hgf
   have HX:=hide (HCL.out k hgf)
   have HQ:Hid (clP its S c ch nm k=((((k:Int) != (c:Int))&&((atF its (works S k)==119)||((atF its (works S k)==114)&&(ch==119))))&&(dG its (works S k)==nm))):=hide rfl
   have HS:Hid (dO its S c nm ch k (3-k)=if fP its S c nm ch k=true then true else dO its S c nm ch (k+1) (3-(k+1))):=by
    apply hide;rw[show 3-k=(2-k)+1 by omega,dO,show 2-k=3-(k+1) by omega]
   rw[<-HX.out,HQ.out] at HS
   clear hgf HX HQ
   generalize atF its (works S k)=ga at *
   generalize dG its (works S k)=gn at *
   generalize works S k=g at *
   generalize aJ S k=q at *
   generalize hx1:((k:Int) != (c:Int))=x1 at *
   generalize hx2:(ga==119)=x2 at *
   generalize hx3:(ga==114)=x3 at *
   generalize hx4:(ch==119)=x4 at *
   generalize hx5:(gn==nm)=x5 at *
   go_wp2_with (first|(refine wpList_load_mid rfl 88 _ rfl _ _ rfl [.bool (g.there&&isH its g.item),.string (Wd.mkS (fb its g)),.slice (fl its lg g) (fb its g).length (fb its g).length] ud ?_ HU.out HD.out Tryz.iCode ?_;(exact iW HG6.out))|(go_at_call 129;refine (BN.out _).mono ?_;rintro e w7 ⟨rfl,hb7⟩;have HG7:=hide (HG6.out.below hb7);have HB7:=hide (ak HB6.out hb7);have p7:=iC HG7.out;clear hb7)|(refine wpList_load_mid rfl 88 _ rfl _ _ rfl [.bool (g.there&&isH its g.item),.string (Wd.mkS (fb its g)),.slice (fl its lg g) (fb its g).length (fb its g).length] ud ?_ HU.out HD.out Tryz.iCode ?_;(exact iW HG5.out))|(go_at_call 105;refine (BA.out _).mono ?_;rintro e w6 ⟨rfl,hb6⟩;have HG6:=hide (HG5.out.below hb6);have HB6:=hide (ak HB5.out hb6);have p6:=iC HG6.out;clear hb6)|(refine wpList_store_row rfl 93 _ _ rfl w4.heap.size (aP its lg g q) rfl rfl 93 #[.bool false,.int .i64 0,.bool false,.string ⟨#[]⟩,.slice none 0 0,.int .i64 0,.bool false,.bool false,.bool false,.bool false,.bool false,.bool false,.bool false] ?_ (Tryz.iFrmA _ _ _ _) rfl (nk _ _ _ _) ?_;(exact (Row.new w4 #[.bool false,.int .i64 0,.bool false,.string ⟨#[]⟩,.slice none 0 0,.int .i64 0,.bool false,.bool false,.bool false,.bool false,.bool false,.bool false,.bool false] 93).raw);rw[World.setRow_alloc_new];have HG5:=hide (Row.new w4 (aP its lg g q) 93);have HB5:=hide (aL HB4.out (.cells (aP its lg g q) 93));generalize w4.alloc (.cells (aP its lg g q) 93)=w5 at *;have p5:=iC HG5.out)|(go_at_call 136;refine (AW.out).mono ?_;rintro e w4 ⟨rfl,hb4⟩;have HB4:=hide (ak HB3.out hb4);clear hb4))
   all_goals clear hx1 hx2 hx3 hx4 hx5 HCL AW BA BN HM3
   all_goals first
    | (go_ret;exact ⟨aO (by rw[HP.out,HS.out,if_pos (by simp_all)];rfl),HB7.out⟩)
    | (refine ⟨⟨k+1,by omega,by go_num,by rw[HP.out,HS.out,if_neg (by simp_all)],HB7.out⟩,by simp[intOf];omega⟩)
  ·go_wp2
   go_ret
   exact ⟨aO (by rw[HP.out,show 3-k=0 by omega];rfl),HB3.out⟩
def kM (its:List Wd.It)(S:Ma)(c:Nat)(l:Int):Int:=match gZ S l with
 | none=>0
 | some d=>if d=c then 68 else if ig its S c 3 l=true then 87 else 58
theorem KI (w:World)(b:Nat)(ai:Option Addr)(ci:Nat)(lg:Nat->Nat)(its:List Wd.It)(S:Ma)(c:Nat)(l:Int)(h:PM w b ai ci lg its S)(ho:bf its)(hi:Inv its 3 S)(hc:c<3)(h0:-1<=l)(h1:l<=5) :
  Calls Tryz.prog 148 #[.pointer (some ⟨b,0,none⟩),.int .i64 c,.int .i64 l] w fun e w'=>e=.returned (.int .u8 (kM its S c l))/\Below w.heap.size w w':=by
 have A1:=hide (CJ w b ai ci lg its S l h hi h0 (by omega))
 have A2:=hide (fun W (hW:Below w.heap.size w W)=>Oq W b ai ci lg its S c l (h.below hW) ho hi hc h0 h1)
 cases ed:gZ S l with
 | none =>
  have e:kM its S c l=0:=by simp[kM,ed]
  rw[e]
  rw[ed] at A1
  have A1':Hid (Calls Tryz.prog 150 #[.pointer (some ⟨b,0,none⟩),.int .i64 l] w fun e w'=>e=.returned (.int .i64 (-1))/\Below w.heap.size w w'):=A1
  clear A1 ed h hi ho e
  go_enter Tryz.func148,Tryz.ntmps148
  go_wp2_with (first|(go_at_call 150;refine A1'.out.mono ?_;rintro e w1 ⟨rfl,hb1⟩))
  go_ret
  exact ⟨rfl,hb1⟩
 | some d =>
  rw[ed] at A1
  have A1':Hid (Calls Tryz.prog 150 #[.pointer (some ⟨b,0,none⟩),.int .i64 l] w fun e w'=>e=.returned (.int .i64 (d:Int))/\Below w.heap.size w w'):=A1
  have t0:((d:Int) == -1)=false:=by simp
  by_cases hdc:d=c
  ·subst hdc
   have e:kM its S d l=68:=by simp[kM,ed]
   rw[e]
   clear A1 ed h hi ho e
   go_enter Tryz.func148,Tryz.ntmps148
   go_wp2_with (first|(go_at_call 150;refine A1'.out.mono ?_;rintro e w1 ⟨rfl,hb1⟩))
   go_ret
   exact ⟨rfl,hb1⟩
  ·have t1:((d:Int)==(c:Int))=false:=by simp;omega
   have e:kM its S c l=if ig its S c 3 l=true then 87 else 58:=by simp[kM,ed,hdc]
   rw[e]
   clear A1 ed h hi ho e
   generalize ig its S c 3 l=r at *
   cases r
   all_goals (
    simp only[Bool.false_eq_true,if_false,if_true]
    go_enter Tryz.func148,Tryz.ntmps148
    go_wp2_with (first|(go_at_call 151;refine (A2.out _ hb1).mono ?_;rintro e w2 ⟨rfl,hb2⟩)|(go_at_call 150;refine A1'.out.mono ?_;rintro e w1 ⟨rfl,hb1⟩))
    go_ret
    exact ⟨rfl,ak hb1 hb2⟩)
def sF (its:List Wd.It)(S:Ma)(c:Nat)(f:Fr):Int :=
 if atF its f=43 then kM its S c (dG its f)
 else if atF its f=114\/atF its f=119 then zR (dO its S c (dG its f) (atF its f) 0 3)
 else 0
theorem uo (w:World)(b:Nat)(ai:Option Addr)(ci:Nat)(lg:Nat->Nat)(its:List Wd.It)(S:Ma)(c:Nat)(f:Fr)(o hd:Bool)(h:PM w b ai ci lg its S)(ho:bf its)(hi:Inv its 3 S)(hc:c<3)(hf:gD its hd f) :
  Calls Tryz.prog 137 #[.pointer (some ⟨b,0,none⟩),.int .i64 c,.agg (aP its lg f o)] w fun e w'=>e=.returned (.int .u8 (sF its S c f))/\Below w.heap.size w w':=by
 have AA:=hide (fun W=>vD ho hf lg W)
 have AN:=hide (fun W=>u7 ho hf lg W)
 have hnb:=vW ho hf
 have AW:=hide (fun W (hW:Below w.heap.size w W)=>KI W b ai ci lg its S c (dG its f) (h.below hW) ho hi hc hnb.1 hnb.2)
 have AR:=hide (fun W (hW:Below w.heap.size w W) (hw:atF its f=114\/atF its f=119)=>Mv W b ai ci lg its S c f o hd (h.below hW) ho hi hc hf hw)
 have HE:Hid (sF its S c f=if atF its f=43 then kM its S c (dG its f) else if atF its f=114\/atF its f=119 then zR (dO its S c (dG its f) (atF its f) 0 3) else 0):=hide rfl
 have hcb:=jG (fb its f) f.pos
 have VY:0<=atF its f/\atF its f<=255:=hcb
 clear h hi ho hf hcb
 obtain ⟨ud,hu,hdd⟩:=Tryz.uCodeR
 have HU:=hide hu
 have HD:=hide hdd
 clear hu hdd
 have HF0:=hide (Row.new w (aP its lg f o) 93)
 have HB0:=hide (aD w (.cells (aP its lg f o) 93))
 have p0:=iC HF0.out
 generalize dO its S c (dG its f) (atF its f) 0 3=cl at *
 generalize kM its S c (dG its f)=wt at *
 generalize sF its S c f=H at *
 generalize atF its f=ch at *
 generalize dG its f=nm at *
 by_cases h43:ch=43
 ·subst h43
  go_enter Tryz.func137,Tryz.ntmps137
  go_wp2_with (first|(go_at_call 148;refine (AW.out _ HB2.out).mono ?_;rintro e w3 ⟨rfl,hb3⟩)|(refine wpList_load_mid rfl 88 _ rfl _ _ rfl [.bool (f.there&&isH its f.item),.string (Wd.mkS (fb its f)),.slice (fl its lg f) (fb its f).length (fb its f).length] ud ?_ HU.out HD.out Tryz.iCode ?_;(exact iW HF1.out))|(go_at_call 129;refine (AN.out _).mono ?_;rintro e w2 ⟨rfl,hb2⟩;have HF2:=hide (HF1.out.below hb2);have HB2:=hide (ak HB1.out hb2);have p2:=iC HF2.out;clear hb2)|(refine wpList_load_mid rfl 88 _ rfl _ _ rfl [.bool (f.there&&isH its f.item),.string (Wd.mkS (fb its f)),.slice (fl its lg f) (fb its f).length (fb its f).length] ud ?_ HU.out HD.out Tryz.iCode ?_;(exact iW HF0.out))|(go_at_call 105;refine (AA.out _).mono ?_;rintro e w1 ⟨rfl,hb1⟩;have HF1:=hide (HF0.out.below hb1);have HB1:=hide (ak HB0.out hb1);have p1:=iC HF1.out;clear hb1))
  go_ret
  exact ⟨aO (by rw[HE.out];simp),ak HB2.out hb3⟩
 have t43:(ch==43)=false:=by simp[h43]
 by_cases hrw:ch=114\/ch=119
 ·rcases hrw with rfl|rfl
  all_goals (
   go_enter Tryz.func137,Tryz.ntmps137
   go_wp2_with (first|(go_at_call 149;refine (AR.out _ HB1.out (by simp)).mono ?_;rintro e w3 ⟨rfl,hb3⟩)|(refine wpList_load_row rfl 93 _ rfl _ rfl 93 (aP its lg f o) (0,0) _ ?_ Tryz.underlying93 rfl (Tryz.iFrmA _ _ _ _) ?_;(exact HF1.out.raw))|(refine wpList_load_mid rfl 88 _ rfl _ _ rfl [.bool (f.there&&isH its f.item),.string (Wd.mkS (fb its f)),.slice (fl its lg f) (fb its f).length (fb its f).length] ud ?_ HU.out HD.out Tryz.iCode ?_;(exact iW HF0.out))|(go_at_call 105;refine (AA.out _).mono ?_;rintro e w1 ⟨rfl,hb1⟩;have HF1:=hide (HF0.out.below hb1);have HB1:=hide (ak HB0.out hb1);have p1:=iC HF1.out;clear hb1))
   go_ret
   exact ⟨aO (by rw[HE.out];simp),ak HB1.out hb3⟩)
 ·have VZ:(ch==114)=false:=by simp;omega
  have t119:(ch==119)=false:=by simp;omega
  have HEE:Hid (H=0):=by apply hide;rw[HE.out,if_neg h43,if_neg hrw]
  clear h43 hrw HE
  go_enter Tryz.func137,Tryz.ntmps137
  go_wp2_with (first|(refine wpList_load_mid rfl 88 _ rfl _ _ rfl [.bool (f.there&&isH its f.item),.string (Wd.mkS (fb its f)),.slice (fl its lg f) (fb its f).length (fb its f).length] ud ?_ HU.out HD.out Tryz.iCode ?_;(exact iW HF0.out))|(go_at_call 105;refine (AA.out _).mono ?_;rintro e w1 ⟨rfl,hb1⟩;have HF1:=hide (HF0.out.below hb1);have HB1:=hide (ak HB0.out hb1);have p1:=iC HF1.out;clear hb1))
  go_ret
  exact ⟨aO (by rw[HEE.out]),HB1.out⟩
end
end Go.Proofs.YtecmfdkhcffpmaaGreat
