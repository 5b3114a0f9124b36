/- PureM4, PureM3. -/
import Derived.Test.YtecmfdkhcffpmaaGreatB11
import Derived.Test.YtecmfdkhcffpmaaGreatB13
namespace Go.Proofs.YtecmfdkhcffpmaaGreat
open Go.RowKit
set_option linter.unusedVariables false
set_option linter.unusedSimpArgs false
set_option linter.unusedSectionVars false
set_option maxHeartbeats 8000000
set_option maxRecDepth 100000
section
namespace Wd
inductive Bd:List UInt8->Prop
 | nil:Bd []
 | lock (c d:UInt8) (r:List UInt8):(bt c=43\/bt c=45)->lk (bt d)=true->Bd r->Bd (c::d::r)
 | cell (c d:UInt8) (r:List UInt8):(bt c=114\/bt c=119)->cl (bt d)=true->Bd r->Bd (c::d::r)
 | one (c:UInt8) (r:List UInt8):(bt c=60\/bt c=62\/bt c=122\/up (bt c)=true)->Bd r->Bd (c::r)
 | alt (a b r:List UInt8):Bd a->Bd b->Bd r->Bd (40::(a++124::(b++41::r)))
 | star (a r:List UInt8):Bd a->Bd r->Bd (91::(a++93::r))
theorem Bd.app {a b:List UInt8}(ha:Bd a)(hb:Bd b):Bd (a++b):=by
 induction ha with
 | nil=>exact hb
 | lock c d r h1 h2 _ ih=>exact .lock c d _ h1 h2 ih
 | cell c d r h1 h2 _ ih=>exact .cell c d _ h1 h2 ih
 | one c r h1 _ ih=>exact .one c _ h1 ih
 | alt x y r hx hy _ _ _ ih =>
  have:=Bd.alt x y _ hx hy ih
  simpa using this
 | star x r hx _ _ ih =>
  have:=Bd.star x _ hx ih
  simpa using this
theorem Bd.clean {b:List UInt8}(h:Bd b):clean b:=by
 induction h with
 | nil=>intro c hc;cases hc
 | lock c d r h1 h2 _ ih =>
  intro x hx
  simp only[List.mem_cons] at hx
  rcases hx with rfl|rfl|hx
  ·rcases h1 with e|e<;>rw[e]<;>decide
  ·simp[lk] at h2;omega
  ·exact ih x hx
 | cell c d r h1 h2 _ ih =>
  intro x hx
  simp only[List.mem_cons] at hx
  rcases hx with rfl|rfl|hx
  ·rcases h1 with e|e<;>rw[e]<;>decide
  ·simp[cl] at h2;omega
  ·exact ih x hx
 | one c r h1 _ ih =>
  intro x hx
  simp only[List.mem_cons] at hx
  rcases hx with rfl|hx
  ·rw[dA] at h1;omega
  ·exact ih x hx
 | alt a b r _ _ _ ia ib ir =>
  intro x hx
  simp only[List.mem_cons,List.mem_append] at hx
  rcases hx with rfl|hx|rfl|hx|rfl|hx
  ·decide
  ·exact ia x hx
  ·decide
  ·exact ib x hx
  ·decide
  ·exact ir x hx
 | star a r _ _ ia ir =>
  intro x hx
  simp only[List.mem_cons,List.mem_append] at hx
  rcases hx with rfl|hx|rfl|hx
  ·decide
  ·exact ia x hx
  ·decide
  ·exact ir x hx
def Left:List UInt8->List UInt8->Prop
 | [],l=>Bd l
 | k::s,l=>if k=40 then ∃a b r,l=a++124::(b++41::r)/\Bd a/\Bd b/\Left s r
  else if k=124 then ∃b r,l=b++41::r/\Bd b/\Left s r
  else ∃a r,l=a++93::r/\Bd a/\Left s r
theorem Left.pre (t:List UInt8)(ht:∀x,Bd x->Bd (t++x))(s l:List UInt8)(h:Left s l):Left s (t++l):=by
 cases s with
 | nil=>exact ht l h
 | cons k s =>
  unfold Left at h ⊢
  by_cases e1:k=40
  ·rw[if_pos e1] at h ⊢
   obtain ⟨a,b,r,e,ha,hb,hr⟩:=h
   exact ⟨t++a,b,r,by rw[e];simp,ht a ha,hb,hr⟩
  rw[if_neg e1] at h ⊢
  by_cases e2:k=124
  ·rw[if_pos e2] at h ⊢
   obtain ⟨b,r,e,hb,hr⟩:=h
   exact ⟨t++b,r,by rw[e];simp,ht b hb,hr⟩
  rw[if_neg e2] at h ⊢
  obtain ⟨b,r,e,hb,hr⟩:=h
  exact ⟨t++b,r,by rw[e];simp,ht b hb,hr⟩
theorem Left.paren {s l:List UInt8}(h:Left (40::s) l):Left s (40::l):=by
 unfold Left at h
 rw[if_pos rfl] at h
 obtain ⟨a,b,r,e,ha,hb,hr⟩:=h
 have:=Left.pre (40::(a++124::(b++[41]))) (fun x hx=>by have:=Bd.alt a b x ha hb hx;simpa using this) s r hr
 rw[e];simpa using this
theorem Left.TK {s l:List UInt8}(h:Left (91::s) l):Left s (91::l):=by
 unfold Left at h
 rw[if_neg (by decide),if_neg (by decide)] at h
 obtain ⟨a,r,e,ha,hr⟩:=h
 have:=Left.pre (91::(a++[93])) (fun x hx=>by have:=Bd.star a x ha hx;simpa using this) s r hr
 rw[e];simpa using this
theorem Left.bar {s l:List UInt8}(h:Left (124::s) l):Left (40::s) (124::l):=by
 unfold Left at h ⊢
 rw[if_neg (by decide),if_pos rfl] at h
 rw[if_pos rfl]
 obtain ⟨b,r,e,hb,hr⟩:=h
 exact ⟨[],b,r,by rw[e];rfl,.nil,hb,hr⟩
theorem Left.TL {s l:List UInt8}(h:Left s l):Left (124::s) (41::l):=by
 unfold Left
 rw[if_neg (by decide),if_pos rfl]
 exact ⟨[],l,rfl,.nil,h⟩
theorem Left.TM {s l:List UInt8}(h:Left s l):Left (91::s) (93::l):=by
 unfold Left
 rw[if_neg (by decide),if_neg (by decide)]
 exact ⟨[],l,rfl,.nil,h⟩
def mI (x:UInt8×List UInt8):Prop:=(bt x.1=116\/bt x.1=104\/up (bt x.1)=true)/\Bd x.2
theorem mI.raw {x:UInt8×List UInt8}(h:mI x):dJ x:=⟨h.1,h.2.clean⟩
theorem yE {o q:List UInt8}{c:UInt8}(h:shut o (bt c)=some q):o=q++[c]:=by
 unfold shut at h
 split at h
 ·rename_i hc
  cases h
  obtain ⟨h1,h2⟩:=hc
  have hne:o≠[]:=by intro e;rw[e] at h1;simp at h1
  have hl:o.getLast hne=c:=by
   apply lS
   rw[<-h2]
   unfold at_ bt
   rw[List.getLast_eq_getElem,List.getElem?_eq_getElem (by omega)];rfl
  rw[<-List.dropLast_eq_take,<-hl,List.dropLast_concat_getLast]
 ·cases h
theorem ql (q:List UInt8)(c:UInt8):(q++[c]).reverse=c::q.reverse:=by simp
theorem Left.Ui {c d:UInt8}{s l:List UInt8}(h1:bt c=43\/bt c=45)(h2:lk (bt d)=true)(h:Left s l):Left s (c::d::l):=Left.pre [c,d] (fun x hx=>.lock c d x h1 h2 hx) s l h
theorem Left.Uj {c d:UInt8}{s l:List UInt8}(h1:bt c=114\/bt c=119)(h2:cl (bt d)=true)(h:Left s l):Left s (c::d::l):=Left.pre [c,d] (fun x hx=>.cell c d x h1 h2 hx) s l h
theorem Left.Gx {c:UInt8}{s l:List UInt8}(h1:bt c=60\/bt c=62\/bt c=122\/up (bt c)=true)(h:Left s l):Left s (c::l):=Left.pre [c] (fun x hx=>.one c x h1 hx) s l h
theorem SL (l:List UInt8)(i:Nat)(st:St)(hn:st.items<=8)(h:iU l i st=none) :
  (st.want=0->st.op=[]->∃rs,l=flat rs/\(∀x∈rs,mI x)/\rs.length+st.items<=8) /\
  (st.want=1->st.op=[]->∃b rs,l=123::(b++125::flat rs)/\Bd b/\(∀x∈rs,mI x)/\rs.length+st.items<=8) /\
  (st.want=2->∃b rs,l=b++125::flat rs/\Left st.op.reverse b/\(∀x∈rs,mI x)/\rs.length+st.items<=8) /\
  (st.want=3->∃d b rs,l=d::(b++125::flat rs)/\lk (bt d)=true/\Left st.op.reverse b/\(∀x∈rs,mI x)/\rs.length+st.items<=8) /\
  (st.want=4->∃d b rs,l=d::(b++125::flat rs)/\cl (bt d)=true/\Left st.op.reverse b/\(∀x∈rs,mI x)/\rs.length+st.items<=8):=by
 induction l generalizing i st with
 | nil =>
  simp[iU] at h
  refine ⟨fun _ _=>⟨[],rfl,by simp,by simpa using hn⟩,fun hw=>by omega,fun hw=>by omega,fun hw=>by omega,fun hw=>by omega⟩
 | cons c t ih =>
  simp only[iU] at h
  cases hs:aR st (bt c) with
  | none=>rw[hs] at h;cases h
  | some st' =>
   rw[hs] at h
   simp only at h
   obtain ⟨want,o,n⟩:=st
   simp only at hn ⊢
   refine ⟨?_,?_,?_,?_,?_⟩
   ·intro hw ho
    subst hw ho
    simp only[aR,if_true] at hs
    split at hs
    ·next hc =>
     cases hs
     obtain ⟨_,i2,_⟩:=ih _ ⟨1,[],n+1⟩ (by simp only;omega) h
     obtain ⟨b,rs,e,hb,hr,hl⟩:=i2 rfl rfl
     refine ⟨(c,b)::rs,by rw[e];rfl,?_,by have hl':rs.length+(n+1)<=8:=hl;simp only[List.length_cons];omega⟩
     intro x hx
     simp only[List.mem_cons] at hx
     rcases hx with rfl|hx
     ·exact ⟨hc.2,hb⟩
     ·exact hr x hx
    ·cases hs
   ·intro hw ho
    subst hw ho
    simp[aR] at hs
    obtain ⟨hc,rfl⟩:=hs
    obtain ⟨_,_,i3,_⟩:=ih _ ⟨2,[],n⟩ hn h
    obtain ⟨b,rs,e,hb,hr,hl⟩:=i3 rfl
    have hcc:c=123:=lS (by rw[hc];rfl)
    exact ⟨b,rs,by rw[e,hcc],hb,hr,hl⟩
   ·intro hw
    subst hw
    have hs:aN ⟨2,o,n⟩ (bt c)=some st':=by simpa [aR] using hs
    unfold aN at hs
    simp only at hs
    by_cases b1:bt c=43\/bt c=45
    ·rw[if_pos b1] at hs;cases hs
     obtain ⟨d,b,rs,e,hd,hb,hr,hl⟩:=(ih _ ⟨3,o,n⟩ hn h).2.2.2.1 rfl
     exact ⟨c::d::b,rs,by rw[e];rfl,Left.Ui b1 hd hb,hr,hl⟩
    rw[if_neg b1] at hs
    by_cases b2:bt c=114\/bt c=119
    ·rw[if_pos b2] at hs;cases hs
     obtain ⟨d,b,rs,e,hd,hb,hr,hl⟩:=(ih _ ⟨4,o,n⟩ hn h).2.2.2.2 rfl
     exact ⟨c::d::b,rs,by rw[e];rfl,Left.Uj b2 hd hb,hr,hl⟩
    rw[if_neg b2] at hs
    by_cases b3:bt c=60\/bt c=62\/bt c=122
    ·rw[if_pos b3] at hs;cases hs
     obtain ⟨b,rs,e,hb,hr,hl⟩:=(ih _ ⟨2,o,n⟩ hn h).2.2.1 rfl
     exact ⟨c::b,rs,by rw[e];rfl,Left.Gx (by rcases b3 with b3|b3|b3<;>simp[b3]) hb,hr,hl⟩
    rw[if_neg b3] at hs
    by_cases b4:bt c=40
    ·rw[if_pos b4] at hs;cases hs
     have hcc:c=40:=lS (by rw[b4];rfl)
     obtain ⟨b,rs,e,hb,hr,hl⟩:=(ih _ ⟨2,o++[40],n⟩ hn h).2.2.1 rfl
     simp only[ql] at hb
     exact ⟨c::b,rs,by rw[e];rfl,by rw[hcc];exact hb.paren,hr,hl⟩
    rw[if_neg b4] at hs
    by_cases b5:bt c=91
    ·rw[if_pos b5] at hs;cases hs
     have hcc:c=91:=lS (by rw[b5];rfl)
     obtain ⟨b,rs,e,hb,hr,hl⟩:=(ih _ ⟨2,o++[91],n⟩ hn h).2.2.1 rfl
     simp only[ql] at hb
     exact ⟨c::b,rs,by rw[e];rfl,by rw[hcc];exact hb.TK,hr,hl⟩
    rw[if_neg b5] at hs
    by_cases b6:bt c=124
    ·rw[if_pos b6] at hs
     have hcc:c=124:=lS (by rw[b6];rfl)
     cases hq:shut o 40 with
     | none=>rw[hq] at hs;cases hs
     | some q =>
      rw[hq] at hs;cases hs
      have ho:o=q++[40]:=yE (c:=40) hq
      obtain ⟨b,rs,e,hb,hr,hl⟩:=(ih _ ⟨2,q++[124],n⟩ hn h).2.2.1 rfl
      simp only[ql] at hb
      refine ⟨c::b,rs,by rw[e];rfl,?_,hr,hl⟩
      rw[hcc,ho,ql];exact hb.bar
    rw[if_neg b6] at hs
    by_cases b7:bt c=41
    ·rw[if_pos b7] at hs
     have hcc:c=41:=lS (by rw[b7];rfl)
     cases hq:shut o 124 with
     | none=>rw[hq] at hs;cases hs
     | some q =>
      rw[hq] at hs;cases hs
      have ho:o=q++[124]:=yE (c:=124) hq
      obtain ⟨b,rs,e,hb,hr,hl⟩:=(ih _ ⟨2,q,n⟩ hn h).2.2.1 rfl
      refine ⟨c::b,rs,by rw[e];rfl,?_,hr,hl⟩
      rw[hcc,ho,ql];exact hb.TL
    rw[if_neg b7] at hs
    by_cases b8:bt c=93
    ·rw[if_pos b8] at hs
     have hcc:c=93:=lS (by rw[b8];rfl)
     cases hq:shut o 91 with
     | none=>rw[hq] at hs;cases hs
     | some q =>
      rw[hq] at hs;cases hs
      have ho:o=q++[91]:=yE (c:=91) hq
      obtain ⟨b,rs,e,hb,hr,hl⟩:=(ih _ ⟨2,q,n⟩ hn h).2.2.1 rfl
      refine ⟨c::b,rs,by rw[e];rfl,?_,hr,hl⟩
      rw[hcc,ho,ql];exact hb.TM
    rw[if_neg b8] at hs
    by_cases b9:bt c=125
    ·rw[if_pos b9] at hs
     have hcc:c=125:=lS (by rw[b9];rfl)
     split at hs
     ·rename_i h0
      cases hs
      have ho:o=[]:=List.eq_nil_of_length_eq_zero h0
      subst ho
      obtain ⟨rs,e,hr,hl⟩:=(ih _ ⟨0,[],n⟩ hn h).1 rfl rfl
      exact ⟨[],rs,by rw[e,hcc];rfl,Bd.nil,hr,hl⟩
     ·cases hs
    rw[if_neg b9] at hs
    by_cases b0:up (bt c)=true
    ·rw[if_pos b0] at hs;cases hs
     obtain ⟨b,rs,e,hb,hr,hl⟩:=(ih _ ⟨2,o,n⟩ hn h).2.2.1 rfl
     exact ⟨c::b,rs,by rw[e];rfl,Left.Gx (by simp[b0]) hb,hr,hl⟩
    rw[if_neg b0] at hs;cases hs
   ·intro hw
    subst hw
    simp[aR] at hs
    obtain ⟨hc,rfl⟩:=hs
    obtain ⟨b,rs,e,hb,hr,hl⟩:=(ih _ ⟨2,o,n⟩ hn h).2.2.1 rfl
    exact ⟨c,b,rs,by rw[e],hc,hb,hr,hl⟩
   ·intro hw
    subst hw
    simp[aR] at hs
    obtain ⟨hc,rfl⟩:=hs
    obtain ⟨b,rs,e,hb,hr,hl⟩:=(ih _ ⟨2,o,n⟩ hn h).2.2.1 rfl
    exact ⟨c,b,rs,by rw[e],hc,hb,hr,hl⟩
theorem NU {l:List UInt8}(h:fault l=none):∃rs,l=flat rs/\(∀x∈rs,mI x)/\rs.length<=8:=by
 obtain ⟨rs,e,hr,hl⟩:=(SL l 0 ⟨0,[],0⟩ (by simp) h).1 rfl rfl
 exact ⟨rs,e,hr,by simpa using hl⟩
def iq (b:List UInt8):Prop:=∀c∈b,up (bt c)=false
theorem Bd.exp {G:Nat->Fn}{b:List UInt8}(h:Bd b)(hG:∀c∈b,up (bt c)=true->Bd (G (bt c-65).toNat).text):Bd (exp G b):=by
 have hplain:∀c:UInt8,up (bt c)=false->jv G c=[c]:=fun c hc=>by unfold jv;rw[hc];rfl
 induction h with
 | nil=>exact .nil
 | lock c d r h1 h2 _ ih =>
  have e:Wd.exp G (c::d::r)=c::d::Wd.exp G r:=by
   have u1:up (bt c)=false:=by rcases h1 with e|e<;>rw[e]<;>decide
   have u2:up (bt d)=false:=by simp[lk] at h2;simp[up];omega
   simp[Wd.exp,hplain c u1,hplain d u2]
  rw[e];exact .lock c d _ h1 h2 (ih fun x hx=>hG x (by simp[hx]))
 | cell c d r h1 h2 _ ih =>
  have e:Wd.exp G (c::d::r)=c::d::Wd.exp G r:=by
   have u1:up (bt c)=false:=by rcases h1 with e|e<;>rw[e]<;>decide
   have u2:up (bt d)=false:=by simp[cl] at h2;simp[up];omega
   simp[Wd.exp,hplain c u1,hplain d u2]
  rw[e];exact .cell c d _ h1 h2 (ih fun x hx=>hG x (by simp[hx]))
 | one c r h1 _ ih =>
  have ih':=ih fun x hx=>hG x (by simp[hx])
  cases hu:up (bt c) with
  | false =>
   have e:Wd.exp G (c::r)=c::Wd.exp G r:=by simp[Wd.exp,hplain c hu]
   rw[e];exact .one c _ h1 ih'
  | true =>
   have e:Wd.exp G (c::r)=(G (bt c-65).toNat).text++Wd.exp G r:=by
    have:jv G c=(G (bt c-65).toNat).text:=by unfold jv;rw[hu];rfl
    simp[Wd.exp,this]
   rw[e];exact (hG c (by simp) hu).app ih'
 | alt a b r _ _ _ ia ib ir =>
  have e:Wd.exp G (40::(a++124::(b++41::r)))=40::(Wd.exp G a++124::(Wd.exp G b++41::Wd.exp G r)):=by
   simp[Wd.exp,hplain 40 (by decide),hplain 124 (by decide),hplain 41 (by decide)]
  rw[e]
  exact .alt _ _ _ (ia fun x hx=>hG x (by simp[hx])) (ib fun x hx=>hG x (by simp[hx])) (ir fun x hx=>hG x (by simp[hx]))
 | star a r _ _ ia ir =>
  have e:Wd.exp G (91::(a++93::r))=91::(Wd.exp G a++93::Wd.exp G r):=by
   simp[Wd.exp,hplain 91 (by decide),hplain 93 (by decide)]
  rw[e]
  exact .star _ _ (ia fun x hx=>hG x (by simp[hx])) (ir fun x hx=>hG x (by simp[hx]))
theorem EG {G:Nat->Fn}{b:List UInt8}(hG:∀c∈b,up (bt c)=true->iq (G (bt c-65).toNat).text):iq (exp G b):=by
 intro x hx
 simp only[exp,List.mem_flatMap] at hx
 obtain ⟨c,hc,hx⟩:=hx
 unfold jv at hx
 cases hu:up (bt c) with
 | true=>rw[hu] at hx;exact hG c hc hu x hx
 | false=>rw[hu] at hx;simp at hx;rw[hx];exact hu
theorem EI {G:Nat->Fn}{b acc x:List UInt8}(h:unf G b acc=some x):∀c∈b,up (bt c)=true->(G (bt c-65).toNat).fits=true:=by
 induction b generalizing acc with
 | nil=>intro c hc;cases hc
 | cons d r ih =>
  intro c hc hu
  unfold unf at h
  simp only[List.mem_cons] at hc
  split at h
  ·split at h
   ·rename_i hf
    split at h
    ·cases h
    ·rcases hc with rfl|hc
     ·exact hf
     ·exact ih h c hc hu
   ·cases h
  ·rename_i hd
   split at h
   ·cases h
   ·rcases hc with rfl|hc
    ·exact absurd hu hd
    ·exact ih h c hc hu
def gY (G:Nat->Fn):Prop:=∀j,Bd (G j).body/\((G j).fits=true->Bd (G j).text/\iq (G j).text)
theorem gY.eY {G:Nat->Fn}(h:gY G)(n:Nat):Bd (eY G (G n)).body/\((eY G (G n)).fits=true->Bd (eY G (G n)).text/\iq (eY G (G n)).text):=by
 unfold Wd.eY Wd.unfold
 cases hq:unf G (G n).body [] with
 | none=>exact ⟨(h n).1,fun e=>by simp at e⟩
 | some x =>
  refine ⟨(h n).1,fun _=>?_⟩
  have hx:=vO G _ [] x hq
  have hf:=EI hq
  simp only[List.nil_append] at hx
  simp only[hx]
  exact ⟨Bd.exp (h n).1 fun c hc hu=>((h _).2 (hf c hc hu)).1,EG fun c hc hu=>((h _).2 (hf c hc hu)).2⟩
theorem gY.dh {G:Nat->Fn}(h:gY G)(n:Nat):gY (dh G n):=by
 unfold Wd.dh
 split
 ·intro j
  by_cases e:j=n
  ·simp only[e,if_true];exact h.eY n
  ·simp only[e,if_false];exact h j
 ·exact h
theorem gY.fF {G:Nat->Fn}(h:gY G)(n:Nat):gY (fF G n):=by
 induction n with
 | zero=>exact h
 | succ n ih=>exact ih.dh n
theorem gY.bJ {G:Nat->Fn}(h:gY G)(n:Nat):gY (bJ G n):=by
 induction n with
 | zero=>exact h
 | succ n ih=>exact ih.fF 8
theorem L9 {F:Nat->Fn}(h:gY F)(p:Part)(hp:Bd p.body):gY (fu F p):=by
 intro j
 unfold fu
 split
 ·simp only
  split
  ·exact ⟨hp,fun e=>by simp at e⟩
  ·exact h j
 ·exact h j
theorem Md (ps:List Part)(F:Nat->Fn)(h:gY F)(hp:∀p∈ps,Bd p.body):gY (ps.foldl fu F):=by
 induction ps generalizing F with
 | nil=>exact h
 | cons p r ih=>exact ih _ (L9 h p (hp p (by simp))) fun q hq=>hp q (by simp[hq])
theorem SN (rs:List (UInt8×List UInt8))(o:Nat)(h:∀x∈rs,mI x):(∀p∈lay o rs,Bd p.body)/\(lay o rs).length=rs.length:=by
 induction rs generalizing o with
 | nil=>simp[lay]
 | cons x r ih =>
  obtain ⟨i1,i2⟩:=ih (o+x.2.length+3) fun y hy=>h y (by simp[hy])
  refine ⟨?_,by simp[lay,i2]⟩
  intro p hp
  simp only[lay,List.mem_cons] at hp
  rcases hp with rfl|hp
  ·exact (h x (by simp)).2
  ·exact i1 p hp
theorem Jt {G:Nat->Fn}(hG:gY G)(ps:List Part)(hp:∀p∈ps,Bd p.body)(acc its:List It)(ha:∀x∈acc,Bd x.body/\iq x.body/\x.body.length<=300)(h:dR G ps acc=.ok its):(∀x∈its,Bd x.body/\iq x.body/\x.body.length<=300)/\its.length<=acc.length+ps.length:=by
 induction ps generalizing acc with
 | nil=>simp[dR] at h;subst h;exact ⟨ha,by simp⟩
 | cons p r ih =>
  unfold dR at h
  split at h
  ·obtain ⟨i1,i2⟩:=ih (fun q hq=>hp q (by simp[hq])) acc ha h
   exact ⟨i1,by simp;omega⟩
  ·cases hq:Wd.unfold G p.body with
   | none=>rw[hq] at h;cases h
   | some x =>
    rw[hq] at h
    have hx:=vO G _ [] x hq
    simp only[List.nil_append] at hx
    have hf:=EI hq
    obtain ⟨i1,i2⟩:=ih (fun q hq=>hp q (by simp[hq])) _ (by
     intro y hy
     simp only[List.mem_append,List.mem_singleton] at hy
     rcases hy with hy|rfl
     ·exact ha y hy
     ·refine ⟨?_,?_,Fp G _ [] x (by simp) hq⟩
      ·rw[hx];exact Bd.exp (hp p (by simp)) fun c hc hu=>((hG _).2 (hf c hc hu)).1
      ·rw[hx];exact EG fun c hc hu=>((hG _).2 (hf c hc hu)).2) h
    exact ⟨i1,by simp at i2 ⊢;omega⟩
theorem Kt {l:List UInt8}{its:List It}(h:aF l=.ok its):its.length<=8/\∀x∈its,Bd x.body/\iq x.body/\x.body.length<=300:=by
 by_cases hbig:240<l.length
 ·rw[uM hbig] at h;cases h
 cases hf:fault l with
 | some i=>rw[uN hbig hf] at h;cases h
 | none =>
  obtain ⟨rs,rfl,hr,hl⟩:=NU hf
  cases hns:names (split (flat rs)).F (split (flat rs)).ps with
  | some i=>rw[uO hbig hf hns] at h;cases h
  | none =>
   cases hrs:left (bJ (split (flat rs)).F 8) with
   | true=>rw[uH hbig hf hns hrs] at h;cases h
   | false =>
    cases hq:items (bJ (split (flat rs)).F 8) (split (flat rs)).ps with
    | error n=>rw[uX hbig hf hns hrs hq] at h;cases h
    | ok Ug =>
     rw[vo hbig hf hns hrs hq] at h
     cases h
     rw[ol rs (fun x hx=>(hr x hx).raw)] at hq
     obtain ⟨lb,ll⟩:=SN rs 0 hr
     have hG:gY (bJ ((lay 0 rs).foldl fu (fun _=>fn0)) 8):=gY.bJ (Md _ _ (fun j=>⟨Bd.nil,fun e=>by simp[fn0] at e⟩) lb) 8
     obtain ⟨i1,i2⟩:=Jt hG (lay 0 rs) lb [] _ (by simp) hq
     exact ⟨by simp at i2;omega,i1⟩
theorem at_cons_succ (c:UInt8)(r:List UInt8)(p:Nat):at_ (c::r) (p+1)=at_ r p:=by simp[at_]
theorem at_cons_zero (c:UInt8)(r:List UInt8):at_ (c::r) 0=bt c:=by simp[at_,bt]
end Wd
namespace Mc
open Wd
theorem ni {a b:List UInt8}{p:Nat}(h:p<a.length):at_ (a++b) p=at_ a p:=by simp[at_,List.getElem?_append_left h]
theorem bG.cons {c:UInt8}{r:List UInt8}(h:bG r)(h1:bt c≠43/\bt c≠45/\bt c≠114/\bt c≠119):bG (c::r):=by
 intro p hp
 cases p with
 | zero =>
  rw[at_cons_zero]
  exact ⟨fun e=>by omega,fun e=>by omega⟩
 | succ p =>
  have:=h p (by simpa using hp)
  simp only[at_cons_succ,List.length_cons]
  exact ⟨fun e=>by have:=this.1 e;omega,fun e=>by have:=this.2 e;omega⟩
theorem bG.two {c d:UInt8}{r:List UInt8}(h:bG r)(h1:((bt c=43\/bt c=45)/\lk (bt d)=true)\/((bt c=114\/bt c=119)/\cl (bt d)=true)):bG (c::d::r):=by
 have hd:bt d≠43/\bt d≠45/\bt d≠114/\bt d≠119:=by
  simp only[lk,cl,decide_eq_true_eq] at h1;omega
 intro p hp
 cases p with
 | zero =>
  rw[at_cons_zero,at_cons_succ,at_cons_zero]
  simp only[lk,cl,decide_eq_true_eq] at h1
  simp only[List.length_cons]
  constructor<;>intro e<;>omega
 | succ p =>
  have:=(h.cons hd) p (by simpa using hp)
  simp only[at_cons_succ (c:=c),List.length_cons] at this ⊢
  exact ⟨fun e=>by have:=this.1 e;omega,fun e=>by have:=this.2 e;omega⟩
theorem bG.app {a b:List UInt8}(ha:bG a)(hb:bG b):bG (a++b):=by
 intro p hp
 by_cases h:p<a.length
 ·have:=ha p h
  rw[ni h]
  simp only[List.length_append]
  refine ⟨fun e=>?_,fun e=>?_⟩
  ·obtain ⟨h1,h2,h3⟩:=this.1 e;rw[ni h1];omega
  ·obtain ⟨h1,h2,h3⟩:=this.2 e;rw[ni h1];omega
 ·have e1:at_ (a++b) p=at_ b (p-a.length):=iG a b p (p-a.length) (by omega)
  have e2:at_ (a++b) (p+1)=at_ b (p-a.length+1):=iG a b (p+1) (p-a.length+1) (by omega)
  have:=hb (p-a.length) (by simp at hp;omega)
  rw[e1,e2]
  simp only[List.length_append]
  refine ⟨fun e=>?_,fun e=>?_⟩
  ·obtain ⟨h1,h2,h3⟩:=this.1 e;omega
  ·obtain ⟨h1,h2,h3⟩:=this.2 e;omega
theorem Me:bG []:=fun p hp=>by simp at hp
theorem qc {b:List UInt8}(h:Bd b):bG b:=by
 induction h with
 | nil=>exact Me
 | lock c d r h1 h2 _ ih=>exact ih.two (Or.inl ⟨h1,h2⟩)
 | cell c d r h1 h2 _ ih=>exact ih.two (Or.inr ⟨h1,h2⟩)
 | one c r h1 _ ih=>exact ih.cons (by rw[dA] at h1;omega)
 | alt a b r _ _ _ ia ib ir=>exact (ia.app ((ib.app (ir.cons (by decide))).cons (by decide))).cons (by decide)
 | star a r _ _ ia ir=>exact (ia.app (ir.cons (by decide))).cons (by decide)
theorem Mf {its:List It}{i:Nat}(hi:i<its.length):∃x∈its,ah its i=x.body/\isH its i=x.handler:=⟨its[i],List.getElem_mem hi,by simp[ah,List.getD,hi],by simp[isH,List.getD,hi]⟩
structure bH (its:List It):Prop where
 len:its.length<=8
 bd:∀i,i<its.length->Bd (ah its i)
 iq:∀i,i<its.length->iq (ah its i)
 short:∀i,i<its.length->(ah its i).length<=300
theorem jP {l:List UInt8}{its:List It}(h:aF l=.ok its):bH its:=by
 obtain ⟨h1,h2⟩:=Kt h
 refine ⟨h1,fun i hi=>?_,fun i hi=>?_,fun i hi=>?_⟩<;>obtain ⟨x,hx,e,_⟩:=Mf hi<;>rw[e]
 ·exact (h2 x hx).1
 ·exact (h2 x hx).2.1
 ·exact (h2 x hx).2.2
theorem bH.ok {its:List It}(h:bH its):bf its:=⟨by have:=h.len;omega,fun i hi=>by have:=h.short i hi;omega,fun i hi=>qc (h.bd i hi)⟩
end Mc
end
section
namespace Mc
open Wd
theorem Inv.av {its:List It}{n:Nat}{S:Ma}(h:Inv its n S)(c:Nat)(x:Cp)(ht:gD its false x.t)(hh:gD its true x.h)(ho:x.off=true->x.t.there=true):Inv its n (av S c x):=by
 refine ⟨fun d hd=>?_,fun d hd=>?_,fun d hd=>?_,h.pl⟩<;>unfold Mc.av<;>by_cases e:d=c<;>simp only[e,if_true,if_false]
 ·exact ht
 ·exact h.t d hd
 ·exact hh
 ·exact h.h d hd
 ·exact ho
 ·exact h.off d hd
theorem vQ (its:List It)(hd:Bool):gD its hd aH:=⟨by simp[aH],by simp[aH],by simp[aH],by simp[aH],fun _=>rfl⟩
theorem Inv.aQ {its:List It}{n:Nat}{S:Ma}(h:Inv its n S)(i:Nat)(b:Bool):Inv its n (aQ S i b):=⟨h.t,h.h,h.off,h.pl⟩
theorem Inv.bA {its:List It}{n:Nat}{S:Ma}(h:Inv its n S)(i p:Nat)(hp:p<=(ah its i).length+1):Inv its n (bA S i p):=by
 refine ⟨h.t,h.h,h.off,fun j hj=>?_⟩
 unfold Mc.bA
 by_cases e:j=i
 ·subst e;simp only[if_true];exact hp
 ·simp only[e,if_false];exact h.pl j hj
theorem Inv.aM (its:List It)(n:Nat):Inv its n (aM its) :=
 ⟨fun _ _=>vQ its false,fun _ _=>vQ its true,fun _ _ h=>by simp[Mc.aM,bU] at h,fun _ _=>by simp[Mc.aM]⟩
theorem kG {b:List UInt8}{p:Nat}(h:atB b p≠101):p<b.length:=by
 by_cases e:p<b.length
 ·exact e
 ·simp[atB,e] at h
theorem NV (b:List UInt8)(p:Nat)(second:Bool)(h:p<b.length):behind b p second<=b.length+1:=by
 unfold behind
 have h1:=qj b p 124 h
 have h2:=qj b p 41 h
 have h3:=qj b p 93 h
 have h4:back b p<=p:=P5 b p 0
 repeat' split
 all_goals omega
theorem EJ:∀h,h<64->∀l,l<6->Nat.testBit h l=false->h+2 ^ l<64:=by decide
theorem A7 (S:Ma)(l:Nat):∀m k,dY S l k m=none->∀d,k<=d->d<k+m->aY (S.cp d) l=false
 | 0,k,_,d,h1,h2=>by omega
 | m+1,k,h,d,h1,h2=>by
  unfold dY at h
  split at h
  ·cases h
  ·by_cases e:d=k
   ·subst e;rename_i hh;simpa using hh
   ·exact A7 S l m (k+1) h d (by omega) (by omega)
theorem Cs {S:Ma}{n l:Nat}(h:holder S n l=none)(d:Nat)(hd:d<n):aY (S.cp d) l=false:=A7 S l n 0 h d (by omega) (by omega)
theorem BV {S:Ma}{n l c:Nat}(h:holder S n l=none)(hc:c<n):holds (works S c).held l=false:=by
 have:=Cs h c hc
 unfold aY at this
 rw[Bool.or_eq_false_iff] at this
 unfold works
 split
 ·exact this.2
 ·exact this.1
theorem iB {its:List It}{n:Nat}{S:Ma}(h:Inv its n S)(c:Nat)(hc:c<n):gD its (S.cp c).h.there (works S c):=by
 unfold works
 cases e:(S.cp c).h.there
 ·simp;exact h.t c hc
 ·simp;exact h.h c hc
theorem Inv.put {its:List It}{n:Nat}{S:Ma}(h:Inv its n S)(c:Nat)(hc:c<n)(f:Fr)(hf:gD its (S.cp c).h.there f)(ho:(S.cp c).h.there=false->(S.cp c).off=true->f.there=true):Inv its n (put S c f):=by
 unfold Mc.put
 refine h.av c _ ?_ ?_ ?_<;>unfold ji<;>cases e:(S.cp c).h.there<;>simp only[if_true,if_false,Bool.false_eq_true]
 ·rw[e] at hf;exact hf
 ·exact h.t c hc
 ·exact h.h c hc
 ·rw[e] at hf;exact hf
 ·exact ho e
 ·exact h.off c hc
theorem Inv.leaves {its:List It}{n:Nat}{S:Ma}(h:Inv its n S)(c:Nat)(hc:c<n)(p:Nat)(hp:p<=(ah its (S.cp c).t.item).length+1)(ho:(S.cp c).off=false):Inv its n (leaves S c p):=by
 unfold Mc.leaves
 exact ((h.aQ _ _).bA _ p hp).av c _ (vQ its false) (h.h c hc) (fun e=>by rw[ho] at e;cases e)
theorem P8 {its:List It}{n:Nat}{S:Ma}(hi:Inv its n S)(ho:bf its)(c:Nat)(hc:c<n)(hth:(works S c).there=true)(h43:atB (ah its (works S c).item) (works S c).pos=43)(hl:(num (ah its (works S c).item) (works S c).pos).toNat<6) :
  gD its (S.cp c).h.there (takes its S n c (works S c) (num (ah its (works S c).item) (works S c).pos).toNat).2/\(takes its S n c (works S c) (num (ah its (works S c).item) (works S c).pos).toNat).2.there=true:=by
 have hf:=iB hi c hc
 unfold takes
 cases e:holder S n (num (ah its (works S c).item) (works S c).pos).toNat with
 | none =>
  simp only
  have hp:(works S c).pos<(ah its (works S c).item).length:=kG (by rw[h43];decide)
  refine ⟨⟨hf.item,hf.kind,fun _=>by simp only;omega,?_,fun h=>by simp only at h;rw[hth] at h;cases h⟩,hth⟩
  exact EJ _ hf.held _ hl (BV e hc)
 | some d =>
  simp only
  split
  ·exact ⟨hf,hth⟩
  ·split
   ·exact ⟨hf,hth⟩
   ·exact ⟨hf,hth⟩
theorem P9 {its:List It}{f:Fr}{hd off second:Bool}(hf:gD its hd f)(hth:f.there=true)(hp:f.pos<(ah its f.item).length) :
  gD its hd (alone (ah its f.item) f hd off second).2.1/\(alone (ah its f.item) f hd off second).2.1.there=true/\((alone (ah its f.item) f hd off second).2.2=true->off=true\/hd=false):=by
 have hb:=NV (ah its f.item) f.pos second hp
 unfold alone
 split
 ·split
  ·refine ⟨⟨hf.item,hf.kind,fun _=>hb,?_,fun h=>by simp only at h;rw[hth] at h;cases h⟩,hth,fun h=>Or.inl h⟩
   exact Nat.lt_of_le_of_lt (Nat.sub_le _ _) hf.held
  ·exact ⟨hf,hth,fun h=>Or.inl h⟩
 ·split
  ·split
   ·exact ⟨hf,hth,fun h=>Or.inl h⟩
   ·rename_i hn
    refine ⟨⟨hf.item,hf.kind,fun _=>hb,hf.held,fun h=>by simp only at h;rw[hth] at h;cases h⟩,hth,fun _=>Or.inr (by simpa using hn)⟩
  ·exact ⟨⟨hf.item,hf.kind,fun _=>hb,hf.held,fun h=>by simp only at h;rw[hth] at h;cases h⟩,hth,fun h=>Or.inl h⟩
theorem zG (S:Ma)(c:Nat)(f:Fr):(put S c f).cp c=ji (S.cp c) f:=by simp[Mc.put,Mc.av]
theorem Ed {its:List It}(ho:bf its){i p:Nat}(hi:i<its.length)(h:atB (ah its i) p=43\/atB (ah its i) p=45):(num (ah its i) p).toNat<6:=by
 have hp:p<(ah its i).length:=kG (by rcases h with h|h<;>rw[h]<;>decide)
 simp only[atB,hp,if_true] at h
 obtain ⟨h1,h2,h3⟩:=(ho.pair i hi p hp).1 h
 rw[num,if_pos h1,if_pos h2];omega
theorem Inv.lone {its:List It}{n:Nat}{S:Ma}(h:Inv its n S)(c:Nat)(hc:c<n)(second:Bool)(hth:(works S c).there=true)(hp:(works S c).pos<(ah its (works S c).item).length):Inv its n (lone its S c second).2:=by
 obtain ⟨h1,h2,h3⟩:=P9 (off:=(S.cp c).off) (second:=second) (iB h c hc) hth hp
 unfold Mc.lone jR
 simp only
 have hput:=h.put c hc _ h1 (fun _ _=>h2)
 refine hput.av c _ (hput.t c hc) (hput.h c hc) ?_
 simp only
 intro ho
 rw[zG]
 unfold ji
 cases e:(S.cp c).h.there
 ·simp only[if_false,Bool.false_eq_true];rw[<-e];exact h2
 ·simp only[if_true]
  rcases h3 ho with h3|h3
  ·exact h.off c hc h3
  ·rw[e] at h3;cases h3
theorem Inv.step {its:List It}{n:Nat}{S:Ma}(h:Inv its n S)(ho:bf its)(c:Nat)(hc:c<n)(second:Bool):Inv its n (step its S n c second).2:=by
 have hf:=iB h c hc
 unfold Mc.step
 simp only
 split
 ·exact h
 rename_i hth
 have hth:(works S c).there=true:=by simpa using hth
 split
 ·split
  ·exact h
  ·rename_i hb
   refine h.put c hc _ (vQ its _) fun e1 e2=>?_
   simp[e1,e2] at hb
 rename_i fw
 have hp:=kG fw
 split
 ·rename_i h43
  obtain ⟨a1,a2⟩:=P8 h ho c hc hth h43 (Ed ho (hf.item hth) (Or.inl h43))
  exact h.put c hc _ a1 (fun _ _=>a2)
 split
 ·split
  ·exact h
  ·rename_i h122 hb
   simp only[not_or] at hb
   obtain ⟨b1,b2,b3⟩:=hb
   have e:works S c=(S.cp c).t:=by unfold works;rw[if_neg b1]
   refine h.leaves c hc _ ?_ ?_
   ·rw[e] at hp ⊢;omega
   ·cases e1:(S.cp c).off
    ·rfl
    ·simp[e1,b1] at b3
 split
 ·exact h
 exact h.lone c hc second hth hp
theorem Inv.comes {its:List It}{n:Nat}{S:Ma}(h:Inv its n S)(c:Nat)(hc:c<n)(i:Nat):Inv its n (comes its S c i).2:=by
 unfold Mc.comes
 split
 ·exact h
 rename_i h1
 simp only[not_or] at h1
 obtain ⟨hl,hh⟩:=h1
 have hl:i<its.length:=by omega
 split
 ·rename_i hk
  split
  ·exact h
  ·refine h.av c _ (h.t c hc) ⟨fun _=>hl,fun _=>hk,fun _=>by simp,by simp,fun e=>by simp at e⟩ (h.off c hc)
 ·rename_i hk
  split
  ·exact h
  ·refine (h.aQ i false).av c _ ⟨fun _=>hl,fun _=>by simpa using hk,fun _=>h.pl i hl,by simp,fun e=>by simp at e⟩ (h.h c hc) (fun _=>rfl)
theorem Inv.command {its:List It}{n:Nat}{S:Ma}(h:Inv its n S)(ho:bf its)(c:Nat)(hc:c<n)(what:Int):Inv its n (command its S n c what).2:=by
 unfold Mc.command
 split
 ·exact h.step ho c hc _
 split
 ·exact h.comes c hc _
 split
 ·exact h
 ·rename_i hb
  simp only[not_or] at hb
  obtain ⟨b1,b2,b3,b4⟩:=hb
  have ht:(S.cp c).t.there=true:=by simpa using b1
  exact h.leaves c hc _ ((h.t c hc).pos ht) (by simpa using b4)
end Mc
end
end Go.Proofs.YtecmfdkhcffpmaaGreat
