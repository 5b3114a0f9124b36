/- MacD, MacE, OwnK. -/
import Derived.Test.YtecmfdkhcffpmaaGreatB13
import Derived.Deep.QuietTactic
import Derived.Test.YtecmfdkhcffpmaaGreatB06
import Derived.Deep.RegionHeld3
import Derived.Laws.MakeOwn
import Derived.Deep.AppendLies
import Derived.Deep.RegionLaw
import Derived.Laws.BytesArg
import Derived.Laws.IdiomStrings
import Derived.Maps.AppendAt
namespace Go.Proofs.YtecmfdkhcffpmaaGreat
open Go.RowKit
set_option linter.unusedVariables false
set_option linter.unusedSimpArgs false
set_option linter.unusedSectionVars false
set_option maxHeartbeats 8000000
set_option maxRecDepth 100000
section
open Mc
theorem DM.bC {w:World}{N b:Nat}{A:Ad}{its:List Wd.It}{n:Nat}{S:Ma}(h:DM w N b A its n S)(i:Nat)(hi:i<its.length):∃g,A.ai=some ⟨g,0,none⟩/\w.cell? ⟨g,i*2+1,none⟩=some (.string (Wd.mkS (ah its i)))/\w.cell? ⟨g,i*2,none⟩=some (.bool (isH its i)):=by
 obtain ⟨g,h1,h2,h3⟩:=h.items (by omega)
 refine ⟨g,h1,?_,?_⟩
 ·rw[h2.cell (i*2+1) (by omega)];simp[itF];rw[show (i*2+1) / 2=i by omega]
 ·rw[h2.cell (i*2) (by omega)];simp[itF]
theorem mr (w:World)(N b:Nat)(A:Ad)(its:List Wd.It)(n:Nat)(S:Ma)(f:Fr)(h:DM w N b A its n S)(hits:bf its)(hf:f.there=true->f.item<its.length/\f.pos<=20000) :
  Calls Tryz.prog 121 #[.pointer (some ⟨b,0,none⟩),.agg #[.bool f.there,.int .i64 (f.item:Int),.int .i64 (f.pos:Int),.int .i64 (f.held:Int)]] w fun e w'=>e=.returned (.int .u8 (stands its f))/\Below w.heap.size w w':=by
 cases ht:f.there
 ·have e:stands its f=95:=by simp[stands,ht]
  rw[e]
  clear e h hf hits
  go_enter Tryz.func121,Tryz.ntmps121
  go_wp2
  go_ret
  exact ⟨rfl,(Below.refl _ _).alloc (Nat.le_refl _) _⟩
 ·have e:stands its f=atB (Wd.mkS (ah its f.item)).data.toList f.pos:=by simp[stands,ht,Wd.fM]
  rw[e]
  obtain ⟨hi,hpos⟩:=hf ht
  obtain ⟨g,hg,q1,q2⟩:=h.bC f.item hi
  have r0:∀o,(w.alloc o).cell? ⟨b,0,none⟩=some (.slice A.ai its.length A.ci):=fun o=>(h.alloc o).root.cell 0 (by omega)
  rw[hg] at r0
  have q1':∀o,(w.alloc o).cell? ⟨g,f.item*2+1,none⟩=some (.string (Wd.mkS (ah its f.item))):=by
   intro o
   obtain ⟨g',hg',q',_⟩:=(h.alloc o).bC f.item hi
   rw[hg] at hg';cases hg';exact q'
  have hs:(Wd.mkS (ah its f.item)).size<=10000:=by rw[Wd.bN];exact hits.body _ hi
  have HA:=hide (fun w=>lV (Wd.mkS (ah its f.item)) f.pos w hs hpos)
  have CA:=h.caps
  unfold maxLen at CA
  clear e h hf hits q1 q2 hg hs
  generalize f.item=fi at *
  generalize f.pos=fp at *
  generalize f.held=fh at *
  generalize Wd.mkS (ah its fi)=sb at *
  go_enter Tryz.func121,Tryz.ntmps121
  go_wp2_with fail
  go_quiet (first|(go_at_call 68;exact Calls.quiet_of_same (HA.out _)))
  go_wp2
  go_ret
  exact ⟨rfl,below_drewN ((Below.refl _ _).alloc (Nat.le_refl _) _) _⟩
theorem Ie (S:Ma)(l n k:Nat)(hk:k<n):dY S l k (n-k)=if aY (S.cp k) l=true then some k else dY S l (k+1) (n-(k+1)):=by
 rw[show n-k=(n-(k+1))+1 by omega];rfl
theorem Bw (S:Ma)(l:Nat):∀m k d,dY S l k m=some d->k<=d/\d<k+m
 | 0,k,d,h=>by simp[dY] at h
 | m+1,k,d,h=>by
  unfold dY at h
  split at h
  ·cases h;omega
  ·have:=Bw S l m (k+1) d h;omega
theorem Ec {S:Ma}{n l d:Nat}(h:holder S n l=some d):d<n:=by
 have:=Bw S l n 0 d h;omega
theorem Dm (w:World)(N b:Nat)(A:Ad)(its:List Wd.It)(n:Nat)(S:Ma)(l:Nat)(h:DM w N b A its n S)(hi:Inv its n S)(hn:n<=3)(hl:l<=20) :
  Calls Tryz.prog 119 #[.pointer (some ⟨b,0,none⟩),.int .i64 l] w fun e w'=>e=.returned (.int .i64 (toI (holder S n l)))/\w'=w:=by
 have r1:w.cell? ⟨b,1,none⟩=some (.slice (some ⟨A.g1,0,none⟩) n A.c1):=h.root.cell 1 (by omega)
 have CA:=h.caps
 unfold maxLen at CA
 have HM:=hide h
 have HI:=hide hi
 clear h hi
 go_enter Tryz.func119,Tryz.ntmps119
 go_wp2
 go_loop [5] (fun a=>∃k:Nat,k<=n/\a=.int .i64 k/\holder S n l=dY S l k (n-k)) (fun a=>n-(intOf a).toNat)
 case atStart=>exact ⟨0,by omega,rfl,rfl⟩
 case round =>
  obtain ⟨k,hk,rfl,hp⟩:=hrel
  have HP:=hide hp
  clear hp
  by_cases hlt:k<n
  ·have q3:w.cell? ⟨A.g1,k*9+3,none⟩=some (.int .i64 ((S.cp k).t.held:Int)):=HM.out.aC k 3 hlt (by omega)
   have q7:w.cell? ⟨A.g1,k*9+7,none⟩=some (.int .i64 ((S.cp k).h.held:Int)):=HM.out.aC k 7 hlt (by omega)
   have ht:=(HI.out.t k hlt).held
   have hh:=(HI.out.h k hlt).held
   have HS:=hide (Ie S l n k hlt)
   have HC:Hid (aY (S.cp k) l=(holds (S.cp k).t.held l||holds (S.cp k).h.held l)):=hide rfl
   have A1:=hide (mE (S.cp k).t.held l w (by omega) hl)
   have A2:=hide (mE (S.cp k).h.held l w (by omega) hl)
   generalize (S.cp k).t.held=ht1 at *
   generalize (S.cp k).h.held=hh1 at *
   cases e1:holds ht1 l
   ·cases e2:holds hh1 l
    ·rw[e1] at A1;rw[e2] at A2
     go_wp2_with (first|(go_at_call_of 70 ht1;refine A1.out.mono ?_;rintro e w' ⟨rfl,rfl⟩)|(go_at_call_of 70 hh1;refine A2.out.mono ?_;rintro e w' ⟨rfl,rfl⟩))
     go_round
     case rel=>exact ⟨k+1,by omega,by go_num,by rw[HP.out,HS.out,if_neg (by rw[HC.out,e1,e2];simp)]⟩
     case measure=>simp[intOf]<;>omega
    ·rw[e1] at A1;rw[e2] at A2
     go_wp2_with (first|(go_at_call_of 70 ht1;refine A1.out.mono ?_;rintro e w' ⟨rfl,rfl⟩)|(go_at_call_of 70 hh1;refine A2.out.mono ?_;rintro e w' ⟨rfl,rfl⟩))
     go_ret
     exact ⟨aO (by rw[HP.out,HS.out,if_pos (by rw[HC.out,e1,e2];rfl)];rfl),rfl⟩
   ·cases e2:holds hh1 l
    ·rw[e1] at A1;rw[e2] at A2
     go_wp2_with (first|(go_at_call_of 70 ht1;refine A1.out.mono ?_;rintro e w' ⟨rfl,rfl⟩)|(go_at_call_of 70 hh1;refine A2.out.mono ?_;rintro e w' ⟨rfl,rfl⟩))
     go_ret
     exact ⟨aO (by rw[HP.out,HS.out,if_pos (by rw[HC.out,e1,e2];rfl)];rfl),rfl⟩
    ·rw[e1] at A1;rw[e2] at A2
     go_wp2_with (first|(go_at_call_of 70 ht1;refine A1.out.mono ?_;rintro e w' ⟨rfl,rfl⟩)|(go_at_call_of 70 hh1;refine A2.out.mono ?_;rintro e w' ⟨rfl,rfl⟩))
     go_ret
     exact ⟨aO (by rw[HP.out,HS.out,if_pos (by rw[HC.out,e1,e2];rfl)];rfl),rfl⟩
  ·go_wp2
   go_ret
   exact ⟨aO (by rw[HP.out,show n-k=0 by omega];rfl),rfl⟩
theorem Ko {its:List Wd.It}{f:Fr}(h:stands its f=43):lW its f=some (num (ah its f.item) f.pos).toNat:=by simp[lW,h]
theorem Kq {its:List Wd.It}{f:Fr}(h:stands its f≠43):lW its f=none:=by simp[lW,h]
theorem BU {its:List Wd.It}{f:Fr}{c:Int}(h:stands its f=c)(hc:c≠95):f.there=true:=by
 cases ht:f.there
 ·simp[stands,ht] at h;exact absurd h.symm hc
 ·rfl
theorem lK {its:List Wd.It}{n:Nat}{S:Ma}(hi:Inv its n S)(c:Nat)(hc:c<n):(works S c).there=true->(works S c).item<its.length/\(works S c).pos<=(ah its (works S c).item).length+1:=by
 unfold works
 split
 ·intro h;exact ⟨(hi.h c hc).item h,(hi.h c hc).pos h⟩
 ·intro h;exact ⟨(hi.t c hc).item h,(hi.t c hc).pos h⟩
theorem yY {its:List Wd.It}(ho:bf its){i p:Nat}(hi:i<its.length)(h:atB (ah its i) p=43\/atB (ah its i) p=45):0<=num (ah its i) p/\num (ah its i) p<=5:=by
 have hp:p<(ah its i).length:=by
  by_cases e:p<(ah its i).length
  ·exact e
  ·simp[atB,e] at h
 simp only[atB,hp,if_true] at h
 obtain ⟨h1,h2,h3⟩:=(ho.pair i hi p hp).1 h
 rw[num,if_pos h1,if_pos h2];omega
theorem SK {its:List Wd.It}(ho:bf its){i p:Nat}(hi:i<its.length)(h:atB (ah its i) p=43\/atB (ah its i) p=45\/atB (ah its i) p=114\/atB (ah its i) p=119):p+1<(ah its i).length->48<=Wd.at_ (ah its i) (p+1):=by
 intro hl
 have hp:p<(ah its i).length:=by omega
 simp only[atB,hp,if_true] at h
 rcases h with h|h|h|h
 ·have:=(ho.pair i hi p hp).1 (Or.inl h);omega
 ·have:=(ho.pair i hi p hp).1 (Or.inr h);omega
 ·have:=(ho.pair i hi p hp).2 (Or.inl h);omega
 ·have:=(ho.pair i hi p hp).2 (Or.inr h);omega
end
section
open Mc
theorem ak {a b c:World}(h1:Below a.heap.size a b)(h2:Below b.heap.size b c):Below a.heap.size a c:=h1.trans (h2.mono h1.size)
theorem aL {a b:World}(h1:Below a.heap.size a b)(o:Obj):Below a.heap.size a (b.alloc o):=h1.alloc h1.size o
def frF (f:Fr):Nat->Value
 | 0=>.bool f.there
 | 1=>.int .i64 (f.item:Int)
 | 2=>.int .i64 (f.pos:Int)
 | _=>.int .i64 (f.held:Int)
theorem Blk.eB (w:World)(f:Fr)(t:TypeId):Blk (w.alloc (.cells #[.bool f.there,.int .i64 (f.item:Int),.int .i64 (f.pos:Int),.int .i64 (f.held:Int)] t)) w.heap.size 4 (frF f):=by
 refine ⟨_,t,heap_alloc_last _ _,fun i hi=>?_⟩
 rcases i with _|_|_|_|i<;>first|rfl|omega
theorem dx (f:Fr):(#[Value.bool f.there,.int .i64 (f.item:Int),.int .i64 (f.pos:Int),.int .i64 (f.held:Int)]).all (·.oneCell')=true:=zm f
theorem j5 (w:World)(N b:Nat)(A:Ad)(its:List Wd.It)(n:Nat)(S:Ma)(c:Nat)(h:DM w N b A its n S)(hc:c<n)(hn:n<=3) :
  Calls Tryz.prog 81 #[.pointer (some ⟨b,0,none⟩),.int .i64 c] w fun e w'=>e=.returned (.agg #[.bool (works S c).there,.int .i64 ((works S c).item:Int),.int .i64 ((works S c).pos:Int),.int .i64 ((works S c).held:Int)])/\Below w.heap.size w w':=Eb w N b A its n S c h hc hn
theorem IW {its:List Wd.It}{S:Ma}{n c k m l:Nat}(h:holder S n l=none):iV its S n c k (m+1) l=false:=by
 simp[iV,h]
theorem Jr {its:List Wd.It}{S:Ma}{n c k m l:Nat}(h:holder S n l=some c):iV its S n c k (m+1) l=decide (0<k):=by
 simp[iV,h]
theorem Js {its:List Wd.It}{S:Ma}{n c k m l d:Nat}(h:holder S n l=some d)(hd:d≠c)(hw:stands its (works S d)≠43):iV its S n c k (m+1) l=false:=by
 simp[iV,h,hd,Kq hw]
theorem Kr {its:List Wd.It}{S:Ma}{n c k m l d:Nat}(h:holder S n l=some d)(hd:d≠c)(hw:stands its (works S d)=43):iV its S n c k (m+1) l=iV its S n c (k+1) m (num (ah its (works S d).item) (works S d).pos).toNat:=by
 simp[iV,h,hd,Ko hw]
theorem ru (its:List Wd.It)(ho:bf its)(i p:Nat)(w:World)(hi:i<its.length)(hp:p<=20000)(h:atB (ah its i) p=43\/atB (ah its i) p=45\/atB (ah its i) p=114\/atB (ah its i) p=119) :
  Calls Tryz.prog 69 #[.string (Wd.mkS (ah its i)),.int .i64 p] w fun e w'=>e=.returned (.int .i64 (num (ah its i) p))/\w'=w:=by
 have:=Dl (Wd.mkS (ah its i)) p w (by rw[Wd.bN];exact ho.body i hi) hp (by rw[Wd.bN,Wd.fM];exact SK ho hi h)
 rwa [Wd.fM] at this
theorem P7 (w:World)(N b:Nat)(A:Ad)(its:List Wd.It)(n:Nat)(S:Ma)(c l:Nat)(h:DM w N b A its n S)(ho:bf its)(hi:Inv its n S)(hn:n<=3)(hc:c<n)(hl:l<=5) :
  Calls Tryz.prog 120 #[.pointer (some ⟨b,0,none⟩),.int .i64 c,.int .i64 l] w fun e w'=>e=.returned (.bool (ring its S n c l))/\Below w.heap.size w w':=by
 have CA:=h.caps
 unfold maxLen at CA
 have HM:=hide h
 have HI:=hide hi
 have HO:=hide ho
 clear h hi ho
 have r1:w.cell? ⟨b,1,none⟩=some (.slice (some ⟨A.g1,0,none⟩) n A.c1):=HM.out.root.cell 1 (by omega)
 go_enter Tryz.func120,Tryz.ntmps120
 go_wp2
 clear r1
 go_loopw [2,7] (fun a b wr=>∃(k l':Nat),k<=n+1/\l'<=5/\a=.int .i64 l'/\b=.int .i64 k/\ring its S n c l=iV its S n c k (n+1-k) l'/\Below w.heap.size w wr) (fun _ b _=>n+1-(intOf b).toNat)
 case atStart=>exact ⟨0,l,by omega,hl,rfl,rfl,rfl,Below.refl _ _⟩
 case round =>
  obtain ⟨k,l',hk,hl',rfl,rfl,hp,hbe⟩:=hrel
  have HP:=hide hp
  have HB:=hide hbe
  clear hp hbe
  have HMr:=hide (HM.out.below HB.out)
  have r1:wr.cell? ⟨b,1,none⟩=some (.slice (some ⟨A.g1,0,none⟩) n A.c1):=HMr.out.root.cell 1 (by omega)
  by_cases hlt:k<=n
  ·rw[show n+1-k=(n-k)+1 by omega] at HP
   have A1:=hide (Dm wr N b A its n S l' HMr.out HI.out hn (by omega))
   cases ed:holder S n l' with
   | none =>
    have HR:=hide (IW (its:=its) (c:=c) (k:=k) (m:=n-k) ed)
    rw[ed] at A1
    have A1':Hid (Calls Tryz.prog 119 #[.pointer (some ⟨b,0,none⟩),.int .i64 l'] wr fun e w'=>e=.returned (.int .i64 (-1))/\w'=wr):=A1
    clear A1 ed
    have t1:((-1:Int)==(c:Int))=false:=by simp
    go_wp2_with (first|(go_at_call 119;refine A1'.out.mono ?_;rintro e w' ⟨rfl,rfl⟩))
    go_ret
    exact ⟨bW (by rw[HP.out,HR.out]),HB.out⟩
   | some d =>
    rw[ed] at A1
    have A1':Hid (Calls Tryz.prog 119 #[.pointer (some ⟨b,0,none⟩),.int .i64 l'] wr fun e w'=>e=.returned (.int .i64 (d:Int))/\w'=wr):=A1
    have hdn:=Ec ed
    have ED:=hide ed
    clear A1 ed
    by_cases hdc:d=c
    ·subst hdc
     have HR:=hide (Jr (its:=its) (c:=d) (k:=k) (m:=n-k) ED.out)
     have t1:((d:Int)==(d:Int))=true:=by simp
     go_wp2_with (first|(go_at_call 119;refine A1'.out.mono ?_;rintro e w' ⟨rfl,rfl⟩))
     go_ret
     exact ⟨bW (by rw[HP.out,HR.out]),HB.out⟩
    ·have t1:((d:Int)==(c:Int))=false:=by simp;omega
     have W1:=hide (j5 wr N b A its n S d HMr.out hdn hn)
     have hok:=hide (lK HI.out d hdn)
     have NO:=hide (fun h=>Js (its:=its) (c:=c) (k:=k) (m:=n-k) ED.out hdc h)
     have GO:=hide (fun h=>Kr (its:=its) (c:=c) (k:=k) (m:=n-k) ED.out hdc h)
     generalize works S d=f at *
     have hf:Hid (f.there=true->f.item<its.length/\f.pos<=20000):=hide fun h=>⟨(hok.out h).1,by have:=hok.out h;have:=HO.out.body _ this.1;omega⟩
     by_cases e43:stands its f=43
     ·have t2:(stands its f != 43)=false:=by simp[e43]
      have HR:=hide (GO.out e43)
      have hth:=BU e43 (by decide)
      have hat:atB (ah its f.item) f.pos=43:=by simpa [stands,hth] using e43
      have hit:=(hf.out hth).1
      have hpo:=(hf.out hth).2
      have hnl:=yY HO.out hit (Or.inl hat)
      have A3:=hide (fun w=>ru its HO.out f.item f.pos w hit hpo (Or.inl hat))
      clear NO GO hat hth e43
      go_wp2_with (first|(go_at_call 119;refine A1'.out.mono ?_;rintro e w' ⟨rfl,rfl⟩)|(go_at_call 81;refine W1.out.mono ?_;rintro e w1 ⟨rfl,hb1⟩;have HM1:=hide (HMr.out.below hb1))|(refine wpList_store_row rfl 108 _ _ rfl _ _ rfl rfl 108 _ (heap_alloc_last _ _) Tryz.iFrame rfl (dx _) ?_;rw[World.setRow_alloc_new])|(refine wpList_load_row rfl 108 _ rfl _ rfl 108 _ (0,0) _ (heap_alloc_last _ _) Tryz.underlying108 rfl Tryz.iFrame ?_)|(go_at_call 121;refine (mr _ N b A its n S f (HM1.out.alloc _) HO.out hf.out).mono ?_;rintro e w2 ⟨rfl,hb2⟩;have HM2:=hide ((HM1.out.alloc _).below hb2);have HF2:=hide ((Blk.eB w1 f _).below hb2)))
      obtain ⟨g,hg,q1,_⟩:=HM2.out.bC f.item hit
      have q0:w2.cell? ⟨b,0,none⟩=some (.slice A.ai its.length A.ci):=HM2.out.root.cell 0 (by omega)
      rw[hg] at q0
      have q2:w2.cell? ⟨w1.heap.size,1,none⟩=some (.int .i64 (f.item:Int)):=HF2.out.cell 1 (by omega)
      have q3:w2.cell? ⟨w1.heap.size,2,none⟩=some (.int .i64 (f.pos:Int)):=HF2.out.cell 2 (by omega)
      have HB2:=hide (ak (aL (ak HB.out hb1) _) hb2)
      clear hb2 HF2 hg
      generalize f.item=fi at *
      generalize f.pos=fp at *
      generalize Wd.mkS (ah its fi)=sb at *
      generalize num (ah its fi) fp=nm at *
      go_quiet (first|(go_at_call 69;exact Calls.quiet_of_same (A3.out _)))
      go_wp2
      go_round
      case rel=>exact ⟨k+1,nm.toNat,by omega,by omega,by rw[Int.toNat_of_nonneg hnl.1],by go_num,by rw[HP.out,HR.out,show n+1-(k+1)=n-k by omega],below_drewN HB2.out _⟩
      case measure=>simp[intOf]<;>omega
     ·have t2:(stands its f != 43)=true:=by simp[e43]
      have HR:=hide (NO.out e43)
      clear NO GO e43
      go_wp2_with (first|(go_at_call 119;refine A1'.out.mono ?_;rintro e w' ⟨rfl,rfl⟩)|(go_at_call 81;refine W1.out.mono ?_;rintro e w1 ⟨rfl,hb1⟩;have HM1:=hide (HMr.out.below hb1))|(refine wpList_store_row rfl 108 _ _ rfl _ _ rfl rfl 108 _ (heap_alloc_last _ _) Tryz.iFrame rfl (dx _) ?_;rw[World.setRow_alloc_new])|(refine wpList_load_row rfl 108 _ rfl _ rfl 108 _ (0,0) _ (heap_alloc_last _ _) Tryz.underlying108 rfl Tryz.iFrame ?_)|(go_at_call 121;refine (mr _ N b A its n S f (HM1.out.alloc _) HO.out hf.out).mono ?_;rintro e w2 ⟨rfl,hb2⟩))
      go_ret
      exact ⟨bW (by rw[HP.out,HR.out]),ak (aL (ak HB.out hb1) _) hb2⟩
  ·go_wp2
   go_ret
   exact ⟨bW (by rw[HP.out,show n+1-k=0 by omega];rfl),HB.out⟩
end
section
open Mc
theorem Tryz.infoInt:(Tryz.prog.info? 3).map (fun i=>(i.zero,i.size,i.bytes))=some (some (.int .i64 0),1,8):=by kernel_rfl
theorem Tryz.infoBool:(Tryz.prog.info? 4).map (fun i=>(i.zero,i.size,i.bytes))=some (some (.bool false),1,1):=by kernel_rfl
theorem zn (w:World)(n:Nat)(hn:n<=1000):(Instr.makeSlice 55 (.int .i64 n) (.int .i64 n)).run Tryz.prog w=.ok (.slice (some ⟨w.heap.size,0,none⟩) n n) (w.alloc (.cells (madeCells #[.int .i64 0] n) 3)):=by
 obtain ⟨i,h1,h2,h3,h4⟩:=info_parts Tryz.infoInt
 have:=run_make w 55 3 i _ Tryz.underlying55 h1 h2 .i64 .i64 n n (by omega) (by omega) (by rw[h4];omega) (by omega)
 rw[this,h3];simp[Value.cells]
theorem qZ (z:Array Value)(m i:Nat)(h:i<m):(madeCells z m)[i]?=some (z[i%z.size]!):=by simp[madeCells,h]
theorem fO {w w':World}{base:Nat}{e:TypeId}{size:Nat}{v:Value}{n:Nat}{xs:List Value}(h:w.ownsRow base e size v n xs)(hb:∀g,base<=g->g<w.heap.size->w'.heap[g]?=w.heap[g]?):w'.ownsRow base e size v n xs:=by
 obtain ⟨a1,a2⟩:=h
 refine ⟨a1,?_⟩
 rcases a2 with a2 | ⟨g',cap,cur,hv',hg,hh,r⟩
 ·exact .inl a2
 ·exact .inr ⟨g',cap,cur,hv',hg,by rw[hb g' hg (bB hh)];exact hh,r⟩
theorem eZ (w:World)(vs:List Value)(t:TypeId):∀j u,vs[j]?=some u->(w.alloc (.cells vs.toArray t)).cell? ((⟨w.heap.size,0,none⟩:Addr).add j)=some u:=World.news_of_block (cs:=vs.toArray) (heap_alloc_last _ _)
theorem yD {w3 w5:World}{o:Obj}{q:Option Nat}(hg:(w3.alloc o).grownBy w5 q):∀j,j<w3.heap.size->q≠some j->w5.heap[j]?=w3.heap[j]?:=fun j hj hne=>by
 rw[hg.block j (by simp;omega) (fun e=>hne e.symm),heap_alloc_old _ _ hj]
theorem Blk.FN {w w':World}{g n:Nat}{f:Nat->Value}(h:Blk w g n f)(hb:Below w.heap.size w w'):Blk w' g n f:=h.below hb
theorem bq {w:World}{base:Nat}{e:TypeId}{size:Nat}{v:Value}{n:Nat}{xs:List Value}(h:w.ownsRow base e size v n xs):∃ao c,v=.slice ao n c:=by
 rcases h.2 with ⟨rfl,h0⟩ | ⟨g,cap,cur,rfl,_⟩
 ·exact ⟨none,0,by rw[h0]⟩
 ·exact ⟨_,_,rfl⟩
end
end Go.Proofs.YtecmfdkhcffpmaaGreat
