/- SrcC, Pure6, SrcD, Pure7. -/
import Derived.Test.YtecmfdkhcffpmaaGreatB04
import Derived.Test.YtecmfdkhcffpmaaGreatB03
import Derived.Laws.Tables
import Derived.Laws.Rows
import Derived.Deep.RegionHeld3
import Derived.Deep.AppendLies
namespace Go.Proofs.YtecmfdkhcffpmaaGreat
open Go.RowKit
set_option linter.unusedVariables false
set_option linter.unusedSimpArgs false
set_option linter.unusedSectionVars false
set_option maxHeartbeats 8000000
set_option maxRecDepth 100000
theorem Rq (c:Int)(w:World)(b:Nat)(st:Wd.St)(hw:st.want=0)(hi:st.items<=8)(hol:st.op.length<=10000)(h0:0<=c)(h1:c<=255)(hsc:Sc w b st) :
  Calls Tryz.prog 109 #[.pointer (some ⟨b,0,none⟩),.int .u8 c] w (fG w b (Wd.aR st c)):=by
 have HX:=hide (Jf c w b st hw hi h0 h1 hsc)
 obtain ⟨want,op,items⟩:=st
 simp only at hw
 subst hw
 obtain ⟨v,hh,hown⟩:=id hsc
 simp only at hh hown
 have c0:=aj (j:=0) hh rfl
 have f0:=frozen_of_row _ b 0 _ _ hh
 have HS:=hide hsc
 clear hh hown hsc
 cases hr:Wd.aR ⟨0,op,items⟩ c with
 | none =>
  rw[hr] at HX
  clear hr
  go_enter Tryz.func109,Tryz.ntmps109
  go_wp2_with fail
  refine HX.out.mono ?_
  rintro e w' ⟨hbe,rfl⟩
  have HB:=hide hbe
  clear hbe
  go_wp2_with fail
  go_ret
  exact ⟨HB.out,rfl⟩
 | some st' =>
  rw[hr] at HX
  clear hr
  go_enter Tryz.func109,Tryz.ntmps109
  go_wp2_with fail
  refine HX.out.mono ?_
  rintro e w' ⟨hbe,rfl,jb⟩
  have HB:=hide hbe
  have HC:=hide jb
  clear hbe jb
  go_wp2_with fail
  go_ret
  exact ⟨HB.out,rfl,HC.out⟩
theorem Rs (c:Int)(w:World)(b:Nat)(st:Wd.St)(hw:st.want=1)(hi:st.items<=8)(hol:st.op.length<=10000)(h0:0<=c)(h1:c<=255)(hsc:Sc w b st) :
  Calls Tryz.prog 109 #[.pointer (some ⟨b,0,none⟩),.int .u8 c] w (fG w b (Wd.aR st c)):=by
 obtain ⟨want,op,items⟩:=st
 simp only at hw
 subst hw
 obtain ⟨v,hh,hown⟩:=id hsc
 simp only at hh hown
 have c0:=aj (j:=0) hh rfl
 have f0:=frozen_of_row _ b 0 _ _ hh
 have HS:=hide hsc
 clear hh hown hsc
 cases hc:(c==123)
 ·have e:Wd.aR ⟨1,op,items⟩ c=none:=by simp at hc;simp[Wd.aR,hc]
  rw[e]
  clear e
  go_enter Tryz.func109,Tryz.ntmps109
  go_wp2
  go_ret
  exact ⟨bE (Below.refl _ _) _,rfl⟩
 ·have e:Wd.aR ⟨1,op,items⟩ c=some ⟨2,op,items⟩:=by simp at hc;simp[Wd.aR,hc]
  rw[e]
  clear e
  go_enter Tryz.func109,Tryz.ntmps109
  go_wp2
  go_ret
  exact ⟨bE (Below.refl _ _) _,rfl,HS.out.want 2⟩
theorem Rt (c:Int)(w:World)(b:Nat)(st:Wd.St)(hw:st.want=3)(hi:st.items<=8)(hol:st.op.length<=10000)(h0:0<=c)(h1:c<=255)(hsc:Sc w b st) :
  Calls Tryz.prog 109 #[.pointer (some ⟨b,0,none⟩),.int .u8 c] w (fG w b (Wd.aR st c)):=by
 obtain ⟨want,op,items⟩:=st
 simp only at hw
 subst hw
 obtain ⟨v,hh,hown⟩:=id hsc
 simp only at hh hown
 have c0:=aj (j:=0) hh rfl
 have f0:=frozen_of_row _ b 0 _ _ hh
 have HS:=hide hsc
 clear hh hown hsc
 by_cases ha:97<=c
 ·by_cases hb:c<103
  ·have e:Wd.aR ⟨3,op,items⟩ c=some ⟨2,op,items⟩:=by
    have:Wd.lk c=true:=by simp[Wd.lk];omega
    simp[Wd.aR,this]
   rw[e]
   clear e
   go_enter Tryz.func109,Tryz.ntmps109
   go_wp2
   go_ret
   exact ⟨bE (Below.refl _ _) _,rfl,HS.out.want 2⟩
  ·have e:Wd.aR ⟨3,op,items⟩ c=none:=by
    have:Wd.lk c=false:=by simp[Wd.lk];omega
    simp[Wd.aR,this]
   rw[e]
   clear e
   go_enter Tryz.func109,Tryz.ntmps109
   go_wp2
   go_ret
   exact ⟨bE (Below.refl _ _) _,rfl⟩
 ·have e:Wd.aR ⟨3,op,items⟩ c=none:=by
   have:Wd.lk c=false:=by simp[Wd.lk];omega
   simp[Wd.aR,this]
  rw[e]
  clear e
  go_enter Tryz.func109,Tryz.ntmps109
  go_wp2
  go_ret
  exact ⟨bE (Below.refl _ _) _,rfl⟩
theorem Ru (c:Int)(w:World)(b:Nat)(st:Wd.St)(hw:st.want=4)(hi:st.items<=8)(hol:st.op.length<=10000)(h0:0<=c)(h1:c<=255)(hsc:Sc w b st) :
  Calls Tryz.prog 109 #[.pointer (some ⟨b,0,none⟩),.int .u8 c] w (fG w b (Wd.aR st c)):=by
 obtain ⟨want,op,items⟩:=st
 simp only at hw
 subst hw
 obtain ⟨v,hh,hown⟩:=id hsc
 simp only at hh hown
 have c0:=aj (j:=0) hh rfl
 have f0:=frozen_of_row _ b 0 _ _ hh
 have HS:=hide hsc
 clear hh hown hsc
 by_cases ha:48<=c
 ·by_cases hb:c<52
  ·have e:Wd.aR ⟨4,op,items⟩ c=some ⟨2,op,items⟩:=by
    have:Wd.cl c=true:=by simp[Wd.cl];omega
    simp[Wd.aR,this]
   rw[e]
   clear e
   go_enter Tryz.func109,Tryz.ntmps109
   go_wp2
   go_ret
   exact ⟨bE (Below.refl _ _) _,rfl,HS.out.want 2⟩
  ·have e:Wd.aR ⟨4,op,items⟩ c=none:=by
    have:Wd.cl c=false:=by simp[Wd.cl];omega
    simp[Wd.aR,this]
   rw[e]
   clear e
   go_enter Tryz.func109,Tryz.ntmps109
   go_wp2
   go_ret
   exact ⟨bE (Below.refl _ _) _,rfl⟩
 ·have e:Wd.aR ⟨4,op,items⟩ c=none:=by
   have:Wd.cl c=false:=by simp[Wd.cl];omega
   simp[Wd.aR,this]
  rw[e]
  clear e
  go_enter Tryz.func109,Tryz.ntmps109
  go_wp2
  go_ret
  exact ⟨bE (Below.refl _ _) _,rfl⟩
theorem Rv (c:Int)(w:World)(b:Nat)(st:Wd.St)(hw:st.want=2)(hi:st.items<=8)(hol:st.op.length<=10000)(h0:0<=c)(h1:c<=255)(hsc:Sc w b st) :
  Calls Tryz.prog 109 #[.pointer (some ⟨b,0,none⟩),.int .u8 c] w (fG w b (Wd.aR st c)):=by
 have HX:=hide (LA c w b st h0 h1 hol hsc)
 obtain ⟨want,op,items⟩:=st
 simp only at hw
 subst hw
 obtain ⟨v,hh,hown⟩:=id hsc
 simp only at hh hown
 have c0:=aj (j:=0) hh rfl
 have f0:=frozen_of_row _ b 0 _ _ hh
 have HS:=hide hsc
 clear hh hown hsc
 have e:Wd.aR ⟨2,op,items⟩ c=Wd.aN ⟨2,op,items⟩ c:=by simp[Wd.aR]
 rw[e]
 clear e
 cases hr:Wd.aN ⟨2,op,items⟩ c with
 | none =>
  rw[hr] at HX
  clear hr
  go_enter Tryz.func109,Tryz.ntmps109
  go_wp2_with fail
  refine HX.out.mono ?_
  rintro e w' ⟨hbe,rfl⟩
  have HB:=hide hbe
  clear hbe
  go_wp2_with fail
  go_ret
  exact ⟨HB.out,rfl⟩
 | some st' =>
  rw[hr] at HX
  clear hr
  go_enter Tryz.func109,Tryz.ntmps109
  go_wp2_with fail
  refine HX.out.mono ?_
  rintro e w' ⟨hbe,rfl,jb⟩
  have HB:=hide hbe
  have HC:=hide jb
  clear hbe jb
  go_wp2_with fail
  go_ret
  exact ⟨HB.out,rfl,HC.out⟩
def Wd.St.fine (st:Wd.St)(k:Nat):Prop:=st.items<=8/\st.op.length<=k/\(st.want=0\/st.want=1\/st.want=2\/st.want=3\/st.want=4)
theorem PE (c:Int)(w:World)(b k:Nat)(st:Wd.St)(hf:st.fine k)(hk:k<=10000)(h0:0<=c)(h1:c<=255)(hsc:Sc w b st) :
  Calls Tryz.prog 109 #[.pointer (some ⟨b,0,none⟩),.int .u8 c] w (fG w b (Wd.aR st c)):=by
 obtain ⟨hi,hol,hw⟩:=hf
 rcases hw with hw|hw|hw|hw|hw
 ·exact Rq c w b st hw hi (by omega) h0 h1 hsc
 ·exact Rs c w b st hw hi (by omega) h0 h1 hsc
 ·exact Rv c w b st hw hi (by omega) h0 h1 hsc
 ·exact Rt c w b st hw hi (by omega) h0 h1 hsc
 ·exact Ru c w b st hw hi (by omega) h0 h1 hsc
theorem PG {o o':List UInt8}{c:Int}(h:Wd.shut o c=some o'):o'.length+1<=o.length:=by
 simp only[Wd.shut] at h
 split at h
 ·cases h;simp;omega
 ·cases h
theorem NE {st st':Wd.St}{c:Int}{k:Nat}(hf:st.fine k)(h:Wd.aR st c=some st'):st'.fine (k+1):=by
 obtain ⟨want,op,items⟩:=st
 obtain ⟨h1,h2,h3⟩:=hf
 simp only at h1 h2 h3
 unfold Wd.aR at h
 simp only at h
 split at h
 ·split at h
  ·cases h;exact ⟨by simp;omega,by simp;omega,by simp⟩
  ·cases h
 split at h
 ·split at h
  ·cases h;exact ⟨h1,by simp;omega,by simp⟩
  ·cases h
 split at h
 ·split at h
  ·cases h;exact ⟨h1,by simp;omega,by simp⟩
  ·cases h
 split at h
 ·split at h
  ·cases h;exact ⟨h1,by simp;omega,by simp⟩
  ·cases h
 have hw:want=2:=by omega
 subst hw
 unfold Wd.aN at h
 simp only at h
 repeat' (split at h)
 all_goals first
  | (cases h;done)
  | (rename_i hq;cases h;have:=PG hq;refine ⟨h1,?_,?_⟩<;>simp<;>omega)
  | (cases h;refine ⟨h1,?_,?_⟩<;>simp<;>omega)
  | (cases h;refine ⟨h1,?_,?_⟩<;>simp)
theorem H7 (s:ByteArray)(w:World)(hs:s.size<=9000) :
  Calls Tryz.prog 83 #[.string s] w fun e w'=>e=.returned (.int .i64 (Wd.toInt (Wd.fault s.data.toList)))/\Below w.heap.size w w':=by
 go_enter Tryz.func83,Tryz.ntmps83
 go_wp2
 have s0:Sc (w.alloc (.cells #[.int .i64 0,.int .i64 0,.slice none 0 0] 173)) w.heap.size ⟨0,[],0⟩:=⟨_,heap_alloc_last _ _,World.ownsRow_nil _ _ _ _⟩
 have s1:Below w.heap.size w (w.alloc (.cells #[.int .i64 0,.int .i64 0,.slice none 0 0] 173)):=(Below.refl _ _).alloc (Nat.le_refl _) _
 generalize w.alloc (.cells #[.int .i64 0,.int .i64 0,.slice none 0 0] 173)=W at *
 go_loopw [4] (fun a wr=>∃(k:Nat) (st:Wd.St),k<=s.size/\a=.int .i64 k/\st.fine k/\Wd.fault s.data.toList=Wd.iU (s.data.toList.drop k) k st/\Sc wr w.heap.size st/\Below w.heap.size w wr) (fun a _=>s.size-(intOf a).toNat)
 case atStart=>exact ⟨0,⟨0,[],0⟩,Nat.zero_le _,rfl,⟨by decide,by decide,Or.inl rfl⟩,rfl,s0,s1⟩
 case round =>
  clear s0 s1
  obtain ⟨k,st,hk,rfl,hf,hp,hsc,hbe⟩:=hrel
  have HF:=hide hf
  have HP:=hide hp
  have HS:=hide hsc
  have HB:=hide hbe
  clear hf hp hbe
  by_cases hlt:k<s.size
  ·clear hsc
   have b0:=Wd.iL s.data.toList k
   have b1:=Wd.iD s.data.toList k
   rw[<-Wd.dz s k hlt] at b0 b1
   have HT:=PE ((s[k].toNat:Nat):Int) wr w.heap.size k st HF.out (by omega) b0 b1 HS.out
   have HE:=hide (Wd.Ig s k st hlt)
   cases hr:Wd.aR st ((s[k].toNat:Nat):Int) with
   | none =>
    rw[hr] at HT HE
    have HTT:=hide HT
    clear HT hr
    go_wp2_with (go_at_call 109;refine HTT.out.mono ?_;rintro e w' ⟨hbe,rfl⟩)
    go_ret
    exact ⟨aO (by rw[HP.out,HE.out];rfl),HB.out.trans hbe⟩
   | some st' =>
    have HF':=hide (NE HF.out hr)
    rw[hr] at HT HE
    have HTT:=hide HT
    clear HT hr
    go_wp2_with (go_at_call 109;refine HTT.out.mono ?_;rintro e w' ⟨hbe,rfl,jb⟩)
    go_roundw
    case rel=>exact ⟨k+1,st',by omega,by go_num,HF'.out,by rw[HP.out,HE.out],jb,HB.out.trans hbe⟩
    case measure=>simp[intOf];omega
  ·obtain ⟨v,hh,hown⟩:=hsc
   have c0:=aj (j:=0) hh rfl
   have c1:=aj (j:=1) hh rfl
   clear hh hown
   have HE:=hide (Wd.Iz s k st (by omega) hk)
   cases hw:(st.want != 0)
   ·cases hi:((st.items:Int)==0)
    ·go_wp2
     go_ret
     refine ⟨aO ?_,HB.out⟩
     simp at hw hi
     rw[HP.out,HE.out];simp[hw,hi,Wd.toInt]
    ·go_wp2
     go_ret
     refine ⟨aO ?_,HB.out⟩
     simp at hw hi
     rw[HP.out,HE.out];simp[hw,hi,Wd.toInt]
   ·go_wp2
    go_ret
    refine ⟨aO ?_,HB.out⟩
    simp at hw
    rw[HP.out,HE.out];simp[hw,Wd.toInt]
namespace Wd
def mkS (l:List UInt8):ByteArray:=⟨l.toArray⟩
theorem fM (l:List UInt8):(mkS l).data.toList=l:=rfl
theorem SE (s:ByteArray):mkS s.data.toList=s:=rfl
theorem bN (l:List UInt8):(mkS l).size=l.length:=by simp[mkS,ByteArray.size]
structure Part where
 letter:Int
 pos:Nat
 body:List UInt8
def mM (p:Part):List Value:=[.int .u8 p.letter,.int .i64 (p.pos:Int),.string (mkS p.body)]
def iJ (ps:List Part):List Value:=ps.flatMap mM
theorem J5 (ps:List Part)(p:Part):iJ (ps++[p])=iJ ps++mM p:=by simp[iJ]
structure Fn where
 there:Bool
 body:List UInt8
 done:Bool
 fits:Bool
 text:List UInt8
def fn0:Fn:=⟨false,[],false,false,[]⟩
def fnV (f:Fn):List Value:=[.bool f.there,.string (mkS f.body),.bool f.done,.bool f.fits,.string (mkS f.text)]
def pgA (v:Value)(F:Nat->Fn):Array Value :=
 #[v,.bool (F 0).there,.string (mkS (F 0).body),.bool (F 0).done,.bool (F 0).fits,.string (mkS (F 0).text),
  .bool (F 1).there,.string (mkS (F 1).body),.bool (F 1).done,.bool (F 1).fits,.string (mkS (F 1).text),
  .bool (F 2).there,.string (mkS (F 2).body),.bool (F 2).done,.bool (F 2).fits,.string (mkS (F 2).text),
  .bool (F 3).there,.string (mkS (F 3).body),.bool (F 3).done,.bool (F 3).fits,.string (mkS (F 3).text),
  .bool (F 4).there,.string (mkS (F 4).body),.bool (F 4).done,.bool (F 4).fits,.string (mkS (F 4).text),
  .bool (F 5).there,.string (mkS (F 5).body),.bool (F 5).done,.bool (F 5).fits,.string (mkS (F 5).text),
  .bool (F 6).there,.string (mkS (F 6).body),.bool (F 6).done,.bool (F 6).fits,.string (mkS (F 6).text),
  .bool (F 7).there,.string (mkS (F 7).body),.bool (F 7).done,.bool (F 7).fits,.string (mkS (F 7).text)]
theorem fH (v:Value)(F:Nat->Fn)(i k:Nat)(hi:i<8)(u:Value)(hk:(fnV (F i))[k]?=some u):(pgA v F)[1+i*5+k]?=some u:=by
 have hk5:k<5:=(List.getElem?_eq_some_iff.1 hk).1
 match i,hi with
 | 0,_|1,_|2,_|3,_|4,_|5,_|6,_|7,_ =>
  match k,hk5 with
  | 0,_|1,_|2,_|3,_|4,_=>exact hk
theorem Fh (v:Value)(F:Nat->Fn)(i:Nat)(f:Fn)(hi:i<8) :
  (((((pgA v F).setIfInBounds (1+i*5) (.bool f.there)).setIfInBounds (1+i*5+1) (.string (mkS f.body))).setIfInBounds (1+i*5+2) (.bool f.done)).setIfInBounds (1+i*5+3) (.bool f.fits)).setIfInBounds (1+i*5+4) (.string (mkS f.text))
   = pgA v (fun j=>if j=i then f else F j):=by
 match i,hi with
 | 0,_|1,_|2,_|3,_|4,_|5,_|6,_|7,_=>simp[pgA]
theorem DX (v v':Value)(F:Nat->Fn):(pgA v F).setIfInBounds 0 v'=pgA v' F:=by simp[pgA]
def fu (F:Nat->Fn)(p:Part):Nat->Fn:=if up p.letter=true then (fun j=>if j=(p.letter-65).toNat then ⟨true,p.body,false,false,[]⟩ else F j) else F
end Wd
def Pg (w:World)(b:Nat)(ps:List Wd.Part)(F:Nat->Wd.Fn):Prop:=∃v,w.heap[b]?=some (.cells (Wd.pgA v F) 142 (0,0))/\w.ownsRow (b+1) 176 3 v ps.length (Wd.iJ ps)
theorem Tryz.info66:(Tryz.prog.info? 176).map (fun i=>(i.zero,i.size,i.bytes))=some (some (.agg #[.int .u8 0,.int .i64 0,.string ByteArray.empty]),3,32):=by kernel_rfl
theorem Gb {w:World}{B:Nat}{a b c:Value}{t:TypeId}(hb:w.heap[B]?=some (.cells #[a,b,c] t (0,0))):∀j u,[a,b,c][j]?=some u->w.cell? ((⟨B,0,none⟩:Addr).add j)=some u :=
 World.news_of_block (cs:=#[a,b,c]) hb
theorem Pg.slice {w:World}{b:Nat}{ps:List Wd.Part}{F:Nat->Wd.Fn}{v v':Value}(h1:w.heap[b]?=some (.cells (Wd.pgA v F) 142 (0,0)))(h2:w.ownsRow (b+1) 176 3 v' ps.length (Wd.iJ ps)):Pg (w.setCell ⟨b,0,none⟩ v') b ps F :=
 ⟨v',by rw[heap_setCell_same _ _ _ _ _ _ h1,Wd.DX],ownsRow_setCell_below h2 (by simp) _⟩
theorem Pg.fn {w:World}{b:Nat}{ps:List Wd.Part}{F:Nat->Wd.Fn}{v:Value}(h1:w.heap[b]?=some (.cells (Wd.pgA v F) 142 (0,0)))(h2:w.ownsRow (b+1) 176 3 v ps.length (Wd.iJ ps))(i:Nat)(hi:i<8)(f:Wd.Fn) :
  Pg (((((w.setCell ⟨b,1+i*5,none⟩ (.bool f.there)).setCell ⟨b,1+i*5+1,none⟩ (.string (Wd.mkS f.body))).setCell ⟨b,1+i*5+2,none⟩ (.bool f.done)).setCell ⟨b,1+i*5+3,none⟩ (.bool f.fits)).setCell ⟨b,1+i*5+4,none⟩ (.string (Wd.mkS f.text))) b ps (fun j=>if j=i then f else F j):=by
 have a1:=heap_setCell_same w b (1+i*5) _ _ (.bool f.there) h1
 have a2:=heap_setCell_same _ b (1+i*5+1) _ _ (.string (Wd.mkS f.body)) a1
 have a3:=heap_setCell_same _ b (1+i*5+2) _ _ (.bool f.done) a2
 have a4:=heap_setCell_same _ b (1+i*5+3) _ _ (.bool f.fits) a3
 have a5:=heap_setCell_same _ b (1+i*5+4) _ _ (.string (Wd.mkS f.text)) a4
 rw[Wd.Fh v F i f hi] at a5
 exact ⟨v,a5,ownsRow_setCell_below (ownsRow_setCell_below (ownsRow_setCell_below (ownsRow_setCell_below (ownsRow_setCell_below h2 (by simp) _) (by simp) _) (by simp) _) (by simp) _) (by simp) _⟩
theorem Pg.draw {w:World}{b:Nat}{ps:List Wd.Part}{F:Nat->Wd.Fn}(h:Pg w b ps F):Pg w.drew b ps F:=h
theorem Dc {w:World}{base g cap:Nat}{ps:List Wd.Part}{p:Wd.Part}{l:List Value}(hl:l=Wd.mM p)(h:w.ownsRow base 176 3 (.slice (some ⟨g,0,none⟩) (ps.length+1) cap) (ps.length+1) (Wd.iJ ps++l)) :
  w.ownsRow base 176 3 (.slice (some ⟨g,0,none⟩) (ps.length+1) cap) (ps++[p]).length (Wd.iJ (ps++[p])):=by
 rw[Wd.J5,<-hl,List.length_append];exact h
theorem add_one (w:World)(b:Nat)(ps:List Wd.Part)(F:Nat->Wd.Fn)(letter:Int)(pos:Nat)(s:ByteArray)(h0:0<=letter)(h1:letter<=255)(hl:ps.length<=10000)(hpg:Pg w b ps F)(hup:Wd.up letter=false) :
  Calls Tryz.prog 110 #[.pointer (some ⟨b,0,none⟩),.agg #[.int .u8 letter,.int .i64 (pos:Int),.string s]] w fun e w'=>e=.returned (.tuple #[])/\Pg w' b (ps++[⟨letter,pos,s.data.toList⟩]) F/\Below b w w':=by
 obtain ⟨v,hh,hown⟩:=hpg
 obtain ⟨i0,hi0,hz0,hz1,hz2⟩:=info_parts Tryz.info66
 have hb:=bB hh
 have zX:v.ownBlock≠some w.heap.size:=fun e=>by have:=(hown.lt _ e).2;omega
 have HO:=hide hown
 have HH:=hide hh
 clear hown hh
 go_enter Tryz.func110,Tryz.ntmps110
 go_wp2_with fail
 have g1:(w.alloc (.cells #[.int .u8 letter,.int .i64 (pos:Int),.string s] 176)).heap[b]?=some (.cells (Wd.pgA v F) 142 (0,0)):=by
  rw[heap_alloc_old _ _ hb];exact HH.out
 have g2:=heap_alloc_last w (.cells #[.int .u8 letter,.int .i64 (pos:Int),.string s] 176)
 have g3:=HO.out.alloc (.cells #[.int .u8 letter,.int .i64 (pos:Int),.string s] 176)
 have g4:Below b w (w.alloc (.cells #[.int .u8 letter,.int .i64 (pos:Int),.string s] 176)):=(Below.refl _ _).alloc (by omega) _
 have g5:(w.alloc (.cells #[.int .u8 letter,.int .i64 (pos:Int),.string s] 176)).heap.size=w.heap.size+1:=by simp
 generalize w.alloc (.cells #[.int .u8 letter,.int .i64 (pos:Int),.string s] 176)=W at *
 generalize w.heap.size=N at *
 clear HO HH
 have c0:W.cell? ⟨b,0,none⟩=some v:=aj g1 rfl
 have f0:=frozen_of_row _ b 0 _ _ g1
 have d0:W.cell? ⟨N,0,none⟩=some (.int .u8 letter):=aj g2 rfl
 have d1:W.cell? ⟨N,1,none⟩=some (.int .i64 (pos:Int)):=aj g2 rfl
 have d2:W.cell? ⟨N,2,none⟩=some (.string s):=aj g2 rfl
 have G1:=hide g1
 have G2:=hide g2
 have G3:=hide g3
 have G4:=hide g4
 have G5:=hide g5
 have hbN:b<N:=hb
 have hvb:v.ownBlock≠some b:=fun e=>by have:=(G3.out.lt b e).1;omega
 clear g1 g2 g3 g4 g5 hb
 have HU:Hid (∀(w1:World),(W.alloc (.cells #[.int .u8 letter,.int .i64 (pos:Int),.string s] 176)).drew.grownBy w1 v.ownBlock->(w1.heap[b]?=some (.cells (Wd.pgA v F) 142 (0,0))/\w1.heap[N]?=some (.cells #[.int .u8 letter,.int .i64 (pos:Int),.string s] 176 (0,0))/\Below b w w1)):=by
  apply hide
  intro w1 hg
  have s5:=G5.out
  refine ⟨?_,?_,?_⟩
  ·rw[hg.block b (by simp;omega) (Ne.symm hvb),heap_drew,heap_alloc_old _ _ (by omega)];exact G1.out
  ·rw[hg.block N (by simp;omega) (Ne.symm zX),heap_drew,heap_alloc_old _ _ (by omega)];exact G2.out
  ·exact ((G4.out.alloc (by omega) _).drew).grown hg (by simp;omega) (fun k hk=>by have:=(G3.out.lt k hk).1;omega)
 have c0':(W.alloc (.cells #[.int .u8 letter,.int .i64 (pos:Int),.string s] 176)).cell? ⟨b,0,none⟩=some v:=by rw[World.cell?_alloc_past _ _ _ (by rw[G5.out];show b<N+1;omega)];exact c0
 go_region_law ((refine step_append_lies _ (by rfl) _ _ _ (by rfl) (b+1) 176 i0 _ 3 32 Tryz.underlying137 hi0 hz0 hz1 hz2 rfl (by omega) v ps.length (Wd.iJ ps) (by rfl) ((G3.out.alloc _).drew) ⟨W.heap.size,0,none⟩ 1 1 [.int .u8 letter,.int .i64 (pos:Int),.string s] (by rfl) (by rfl) (Gb (heap_alloc_new W _)) (by simp[Value.oneCell']) (by omega) (by unfold maxLen;omega) (by omega) (by simp[G5.out];omega) (W.heap.size+1) (by simp) ?_;intro gg cap w1 hown1 hgrow hat hlt;have k0:w1.cell? ⟨b,0,none⟩=some v:=aj (HU.out w1 hgrow).1 rfl;have e0:=frozen_of_row _ b 0 _ _ (HU.out w1 hgrow).1;have m0:w1.cell? ⟨N,0,none⟩=some (.int .u8 letter):=aj (HU.out w1 hgrow).2.1 rfl;have m2:w1.cell? ⟨N,2,none⟩=some (.string s):=aj (HU.out w1 hgrow).2.1 rfl;have HG:=hide hgrow;have HW:=hide hown1;clear hgrow hown1 hat hlt))
 all_goals go_wp2_with (go_at_call 111;refine (dN _ _ h0 h1).mono ?_;rw[hup];rintro e w' ⟨rfl,rfl⟩)
 all_goals go_end0
 all_goals exact ⟨rfl,Pg.slice (HU.out _ HG.out).1 (Dc (p:=⟨letter,pos,s.data.toList⟩) rfl HW.out),bE (HU.out _ HG.out).2.2 _⟩
theorem SF (w:World)(b:Nat)(ps:List Wd.Part)(F:Nat->Wd.Fn)(letter:Int)(pos:Nat)(s:ByteArray)(h0:0<=letter)(h1:letter<=255)(hl:ps.length<=10000)(hpg:Pg w b ps F)(hup:Wd.up letter=true) :
  Calls Tryz.prog 110 #[.pointer (some ⟨b,0,none⟩),.agg #[.int .u8 letter,.int .i64 (pos:Int),.string s]] w fun e w'=>e=.returned (.tuple #[])/\Pg w' b (ps++[⟨letter,pos,s.data.toList⟩]) (fun j=>if j=(letter-65).toNat then ⟨true,s.data.toList,false,false,[]⟩ else F j)/\Below b w w':=by
 obtain ⟨v,hh,hown⟩:=hpg
 obtain ⟨i0,hi0,hz0,hz1,hz2⟩:=info_parts Tryz.info66
 have hb:=bB hh
 have zX:v.ownBlock≠some w.heap.size:=fun e=>by have:=(hown.lt _ e).2;omega
 have HO:=hide hown
 have HH:=hide hh
 clear hown hh
 have Gv:=hup
 simp[Wd.up] at Gv
 go_enter Tryz.func110,Tryz.ntmps110
 go_wp2_with fail
 have g1:(w.alloc (.cells #[.int .u8 letter,.int .i64 (pos:Int),.string s] 176)).heap[b]?=some (.cells (Wd.pgA v F) 142 (0,0)):=by
  rw[heap_alloc_old _ _ hb];exact HH.out
 have g2:=heap_alloc_last w (.cells #[.int .u8 letter,.int .i64 (pos:Int),.string s] 176)
 have g3:=HO.out.alloc (.cells #[.int .u8 letter,.int .i64 (pos:Int),.string s] 176)
 have g4:Below b w (w.alloc (.cells #[.int .u8 letter,.int .i64 (pos:Int),.string s] 176)):=(Below.refl _ _).alloc (by omega) _
 have g5:(w.alloc (.cells #[.int .u8 letter,.int .i64 (pos:Int),.string s] 176)).heap.size=w.heap.size+1:=by simp
 generalize w.alloc (.cells #[.int .u8 letter,.int .i64 (pos:Int),.string s] 176)=W at *
 generalize w.heap.size=N at *
 clear HO HH
 have c0:W.cell? ⟨b,0,none⟩=some v:=aj g1 rfl
 have f0:=frozen_of_row _ b 0 _ _ g1
 have d0:W.cell? ⟨N,0,none⟩=some (.int .u8 letter):=aj g2 rfl
 have d1:W.cell? ⟨N,1,none⟩=some (.int .i64 (pos:Int)):=aj g2 rfl
 have d2:W.cell? ⟨N,2,none⟩=some (.string s):=aj g2 rfl
 have G1:=hide g1
 have G2:=hide g2
 have G3:=hide g3
 have G4:=hide g4
 have G5:=hide g5
 have hbN:b<N:=hb
 have hvb:v.ownBlock≠some b:=fun e=>by have:=(G3.out.lt b e).1;omega
 clear g1 g2 g3 g4 g5 hb
 have HU:Hid (∀(w1:World),(W.alloc (.cells #[.int .u8 letter,.int .i64 (pos:Int),.string s] 176)).drew.grownBy w1 v.ownBlock->(w1.heap[b]?=some (.cells (Wd.pgA v F) 142 (0,0))/\w1.heap[N]?=some (.cells #[.int .u8 letter,.int .i64 (pos:Int),.string s] 176 (0,0))/\Below b w w1)):=by
  apply hide
  intro w1 hg
  have s5:=G5.out
  refine ⟨?_,?_,?_⟩
  ·rw[hg.block b (by simp;omega) (Ne.symm hvb),heap_drew,heap_alloc_old _ _ (by omega)];exact G1.out
  ·rw[hg.block N (by simp;omega) (Ne.symm zX),heap_drew,heap_alloc_old _ _ (by omega)];exact G2.out
  ·exact ((G4.out.alloc (by omega) _).drew).grown hg (by simp;omega) (fun k hk=>by have:=(G3.out.lt k hk).1;omega)
 have c0':(W.alloc (.cells #[.int .u8 letter,.int .i64 (pos:Int),.string s] 176)).cell? ⟨b,0,none⟩=some v:=by rw[World.cell?_alloc_past _ _ _ (by rw[G5.out];show b<N+1;omega)];exact c0
 go_region_law ((refine step_append_lies _ (by rfl) _ _ _ (by rfl) (b+1) 176 i0 _ 3 32 Tryz.underlying137 hi0 hz0 hz1 hz2 rfl (by omega) v ps.length (Wd.iJ ps) (by rfl) ((G3.out.alloc _).drew) ⟨W.heap.size,0,none⟩ 1 1 [.int .u8 letter,.int .i64 (pos:Int),.string s] (by rfl) (by rfl) (Gb (heap_alloc_new W _)) (by simp[Value.oneCell']) (by omega) (by unfold maxLen;omega) (by omega) (by simp[G5.out];omega) (W.heap.size+1) (by simp) ?_;intro gg cap w1 hown1 hgrow hat hlt;have k0:w1.cell? ⟨b,0,none⟩=some v:=aj (HU.out w1 hgrow).1 rfl;have e0:=frozen_of_row _ b 0 _ _ (HU.out w1 hgrow).1;have m0:w1.cell? ⟨N,0,none⟩=some (.int .u8 letter):=aj (HU.out w1 hgrow).2.1 rfl;have m2:w1.cell? ⟨N,2,none⟩=some (.string s):=aj (HU.out w1 hgrow).2.1 rfl;have HG:=hide hgrow;have HW:=hide hown1;clear hgrow hown1 hat hlt))
 all_goals go_wp2_with (go_at_call 111;refine (dN _ _ h0 h1).mono ?_;rw[hup];rintro e w' ⟨rfl,rfl⟩)
 all_goals
  have q1:(w1.setCell ⟨b,0,none⟩ (.slice (some ⟨gg,0,none⟩) (ps.length+1) cap)).heap[b]?=some (.cells (Wd.pgA (.slice (some ⟨gg,0,none⟩) (ps.length+1) cap) F) 142 (0,0)):=by
   rw[heap_setCell_same _ _ _ _ _ _ (HU.out _ HG.out).1,Wd.DX]
  have q2:(w1.setCell ⟨b,0,none⟩ (.slice (some ⟨gg,0,none⟩) (ps.length+1) cap)).heap[N]?=some (.cells #[.int .u8 letter,.int .i64 (pos:Int),.string s] 176 (0,0)):=by
   rw[heap_setCell_other _ _ _ _ (by show N≠b;omega)];exact (HU.out _ HG.out).2.1
  have q3:=ownsRow_setCell_below (a:=⟨b,0,none⟩) (Dc (p:=⟨letter,pos,s.data.toList⟩) rfl HW.out) (by simp) (.slice (some ⟨gg,0,none⟩) (ps.length+1) cap)
  have q4:=bE (o:=0) (HU.out _ HG.out).2.2 (.slice (some ⟨gg,0,none⟩) (ps.length+1) cap)
  clear k0 e0 m0 m2 c0 c0' f0 d0 d1 d2
  generalize w1.setCell ⟨b,0,none⟩ (.slice (some ⟨gg,0,none⟩) (ps.length+1) cap)=W2 at *
  generalize Value.slice (some ⟨gg,0,none⟩) (ps.length+1) cap=V at *
  have hi8:(letter-65).toNat<8:=by omega
  have r0:W2.cell? ⟨b,1+(letter-65).toNat*5,none⟩=some (.bool (F (letter-65).toNat).there):=aj q1 (Wd.fH _ F _ 0 hi8 _ rfl)
  have r1:W2.cell? ⟨b,1+(letter-65).toNat*5+1,none⟩=some (.string (Wd.mkS (F (letter-65).toNat).body)):=aj q1 (Wd.fH _ F _ 1 hi8 _ rfl)
  have r2:W2.cell? ⟨b,1+(letter-65).toNat*5+2,none⟩=some (.bool (F (letter-65).toNat).done):=aj q1 (Wd.fH _ F _ 2 hi8 _ rfl)
  have r3:W2.cell? ⟨b,1+(letter-65).toNat*5+3,none⟩=some (.bool (F (letter-65).toNat).fits):=aj q1 (Wd.fH _ F _ 3 hi8 _ rfl)
  have r4:W2.cell? ⟨b,1+(letter-65).toNat*5+4,none⟩=some (.string (Wd.mkS (F (letter-65).toNat).text)):=aj q1 (Wd.fH _ F _ 4 hi8 _ rfl)
  have z0:=frozen_of_row W2 b (1+(letter-65).toNat*5) _ _ q1
  have z1:=frozen_of_row W2 b (1+(letter-65).toNat*5+1) _ _ q1
  have z2:=frozen_of_row W2 b (1+(letter-65).toNat*5+2) _ _ q1
  have z3:=frozen_of_row W2 b (1+(letter-65).toNat*5+3) _ _ q1
  have z4:=frozen_of_row W2 b (1+(letter-65).toNat*5+4) _ _ q1
  have m0:W2.cell? ⟨N,0,none⟩=some (.int .u8 letter):=aj q2 rfl
  have m2:W2.cell? ⟨N,2,none⟩=some (.string s):=aj q2 rfl
  have Q1:=hide q1
  have Q3:=hide q3
  have Q4:=hide q4
  clear q1 q2 q3 q4
  go_region
 all_goals go_wp2
 all_goals go_end0
 all_goals exact ⟨rfl,Pg.draw (Pg.fn Q1.out Q3.out (letter-65).toNat hi8 ⟨true,s.data.toList,false,false,[]⟩),(bE (bE (bE (bE (bE Q4.out _) _) _) _) _).drew⟩
theorem Rw (w:World)(b:Nat)(ps:List Wd.Part)(F:Nat->Wd.Fn)(letter:Int)(pos:Nat)(s:ByteArray)(h0:0<=letter)(h1:letter<=255)(hl:ps.length<=10000)(hpg:Pg w b ps F) :
  Calls Tryz.prog 110 #[.pointer (some ⟨b,0,none⟩),.agg #[.int .u8 letter,.int .i64 (pos:Int),.string s]] w fun e w'=>e=.returned (.tuple #[])/\Pg w' b (ps++[⟨letter,pos,s.data.toList⟩]) (Wd.fu F ⟨letter,pos,s.data.toList⟩)/\Below b w w':=by
 cases hup:Wd.up letter
 ·have e:Wd.fu F ⟨letter,pos,s.data.toList⟩=F:=by simp[Wd.fu,hup]
  rw[e]
  exact add_one w b ps F letter pos s h0 h1 hl hpg hup
 ·have e:Wd.fu F ⟨letter,pos,s.data.toList⟩=(fun j=>if j=(letter-65).toNat then ⟨true,s.data.toList,false,false,[]⟩ else F j):=by simp[Wd.fu,hup]
  rw[e]
  exact SF w b ps F letter pos s h0 h1 hl hpg hup
namespace Wd
structure Sp where
 begin:Nat
 ps:List Part
 F:Nat->Fn
def partOf (l:List UInt8)(b i:Nat):Part:=⟨at_ l b,b,(l.drop (b+2)).take (i-(b+2))⟩
def lC (l:List UInt8)(st:Sp)(i:Nat):Sp:=if at_ l i=125/\st.begin+2<=i then ⟨i+1,st.ps++[partOf l st.begin i],fu st.F (partOf l st.begin i)⟩ else st
def bS (l:List UInt8):Nat->Sp
 | 0=>⟨0,[],fun _=>fn0⟩
 | k+1=>lC l (bS l k) k
theorem Bq (l:List UInt8)(k:Nat):(bS l k).begin<=k:=by
 induction k with
 | zero=>simp[bS]
 | succ k ih=>simp only[bS,lC];split<;>(try simp)<;>omega
theorem Cm (l:List UInt8)(k:Nat):(bS l k).ps.length<=k:=by
 induction k with
 | zero=>simp[bS]
 | succ k ih=>simp only[bS,lC];split<;>(try simp)<;>omega
def split (l:List UInt8):Sp:=bS l l.length
def mo (F:Nat->Fn)(l:List UInt8)(i:Nat):Bool:=up (at_ l i)&&!(F (at_ l i-65).toNat).there
def unknown (F:Nat->Fn)(l:List UInt8):Option Nat:=first (mo F l) l.length
def qy (F:Nat->Fn)(l:List UInt8)(i:Nat):Bool:=up (at_ l i)&&!(F (at_ l i-65).toNat).done
def jO (F:Nat->Fn)(l:List UInt8):Bool:=(first (qy F l) l.length).isNone
def unf (F:Nat->Fn):List UInt8->List UInt8->Option (List UInt8)
 | [],acc=>some acc
 | c::r,acc =>
  if up (bt c)=true then
   (if (F (bt c-65).toNat).fits=true then
    (if 300<(acc++(F (bt c-65).toNat).text).length then none else unf F r (acc++(F (bt c-65).toNat).text))
   else none)
  else (if 300<(acc++[c]).length then none else unf F r (acc++[c]))
def unfold (F:Nat->Fn)(l:List UInt8):Option (List UInt8):=unf F l []
theorem PI (F:Nat->Fn)(s:ByteArray)(k:Nat)(h:k<s.size):mo F s.data.toList k=(up ((s[k].toNat:Nat):Int)&&!(F (s[k].toNat-65)).there):=by
 rw[mo,<-dz s k h,show (((s[k].toNat:Nat):Int)-65).toNat=s[k].toNat-65 from by omega]
theorem J6 (F:Nat->Fn)(s:ByteArray)(k:Nat)(h:k<s.size):qy F s.data.toList k=(up ((s[k].toNat:Nat):Int)&&!(F (s[k].toNat-65)).done):=by
 rw[qy,<-dz s k h,show (((s[k].toNat:Nat):Int)-65).toNat=s[k].toNat-65 from by omega]
theorem PK (F:Nat->Fn)(s:ByteArray)(k:Nat)(acc:List UInt8)(h:k<s.size):unf F (s.data.toList.drop k) acc =
  if up ((s[k].toNat:Nat):Int)=true then
   (if (F (s[k].toNat-65)).fits=true then
    (if 300<(acc++(F (s[k].toNat-65)).text).length then none else unf F (s.data.toList.drop (k+1)) (acc++(F (s[k].toNat-65)).text))
   else none)
  else (if 300<(acc++[s[k]]).length then none else unf F (s.data.toList.drop (k+1)) (acc++[s[k]])):=by
 rw[drop_cons s k h,unf,show (bt s[k]-65).toNat=s[k].toNat-65 from by unfold bt;omega];rfl
theorem Rx (F:Nat->Fn)(s:ByteArray)(k:Nat)(acc:List UInt8)(h:s.size<=k):unf F (s.data.toList.drop k) acc=some acc:=by
 rw[List.drop_of_length_le (by rw[aI];exact h)];rfl
end Wd
end Go.Proofs.YtecmfdkhcffpmaaGreat
