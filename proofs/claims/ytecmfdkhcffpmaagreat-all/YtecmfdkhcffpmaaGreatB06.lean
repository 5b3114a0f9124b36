/- SrcE, SrcF, Pure8. -/
import Derived.Test.YtecmfdkhcffpmaaGreatB05
import Derived.Deep.RegionWith
import Derived.Lib.AppendStr
namespace Go.Proofs.YtecmfdkhcffpmaaGreat
open Go.RowKit
set_option linter.unusedVariables false
set_option linter.unusedSimpArgs false
set_option linter.unusedSectionVars false
set_option maxHeartbeats 8000000
set_option maxRecDepth 100000
theorem Tryz.i55:(Tryz.prog.info? 142).map (·.size)=some 41:=by kernel_rfl
theorem iH {w:World}{base base':Nat}{e:TypeId}{size:Nat}{v:Value}{n:Nat}{xs:List Value}(h:w.ownsRow base e size v n xs)(hb:base'<=base):w.ownsRow base' e size v n xs:=by
 obtain ⟨h1,h2⟩:=h
 refine ⟨h1,?_⟩
 rcases h2 with h2 | ⟨g,cap,cur,hv,hg,r⟩
 ·exact .inl h2
 ·exact .inr ⟨g,cap,cur,hv,by omega,r⟩
theorem wpList_runTo' {P:Program}{ops:Array Oper}{rest:List Oper}{o:Oper}{a:Act}{w:World}{Q:Exit->Act->World->Prop}(hg:o.guard=none)
  (v:Value) (w':World) (hrun:(execOp a.eval o).run P w=.ok (.value v) w') (h:wpList P ops Q rest (a.put o.dst v) w'):wpList P ops Q (o::rest) a w:=by
 refine wpList_plain hg fun K hK=>?_
 unfold Oper.wp
 rw[hrun,Oper.upon_value]
 exact hK _ _ h
theorem J7 (ρ:Operand->Value)(d:Option Tmp)(ty:TypeId)(ps:String)(af:Array Edge)(g:Option (Nat×Bool))(w:World) :
  (execOp ρ {dst:=d,op:=.alloc 142,type:=ty,pos:=ps,after:=af,guard:=g}).run Tryz.prog w=.ok (.value (.pointer (some ⟨w.heap.size,0,none⟩))) (w.alloc (.cells (Wd.pgA (.slice none 0 0) (fun _=>Wd.fn0)) 142)):=by kernel_rfl
theorem J8 (ρ:Operand->Value)(d:Option Tmp)(ty:TypeId)(ps:String)(af:Array Edge)(g:Option (Nat×Bool))(w:World) :
  (execOp ρ {dst:=d,op:=.build 142 #[],type:=ty,pos:=ps,after:=af,guard:=g}).run Tryz.prog w=.ok (.value (.agg (Wd.pgA (.slice none 0 0) (fun _=>Wd.fn0)))) w:=by kernel_rfl
theorem Be {ops:Array Oper}{rest:List Oper}{o:Oper}{a:Act}{w:World}{Q:Exit->Act->World->Prop}(hg:o.guard=none)(ho:o.op=.alloc 142)
  (h:wpList Tryz.prog ops Q rest (a.put o.dst (.pointer (some ⟨w.heap.size,0,none⟩))) (w.alloc (.cells (Wd.pgA (.slice none 0 0) (fun _=>Wd.fn0)) 142))):wpList Tryz.prog ops Q (o::rest) a w:=by
 obtain ⟨d,op,ty,ps,af,g⟩:=o
 simp only at ho hg
 subst ho
 exact wpList_runTo' hg _ _ (J7 _ _ _ _ _ _ _) h
theorem Ih {ops:Array Oper}{rest:List Oper}{o:Oper}{a:Act}{w:World}{Q:Exit->Act->World->Prop}(hg:o.guard=none)(ho:o.op=.build 142 #[])
  (h:wpList Tryz.prog ops Q rest (a.put o.dst (.agg (Wd.pgA (.slice none 0 0) (fun _=>Wd.fn0)))) w):wpList Tryz.prog ops Q (o::rest) a w:=by
 obtain ⟨d,op,ty,ps,af,g⟩:=o
 simp only at ho hg
 subst ho
 exact wpList_runTo' hg _ _ (J8 _ _ _ _ _ _ _) h
theorem zi (ao:Option Addr)(n c:Nat)(F:Nat->Wd.Fn):(Wd.pgA (.slice ao n c) F).all (·.oneCell')=true:=by
 simp[Wd.pgA,Value.oneCell']
theorem wrap_small (n:Int)(h0:0<=n)(h1:n<1000000):IntKind.i64.wrap n=n:=by
 have e:n%(2 ^ IntKind.i64.bits:Int)=n:=Int.emod_eq_of_lt h0 (by simp[IntKind.bits];omega)
 simp only[IntKind.wrap,e]
 rw[if_neg]
 simp[IntKind.bits];omega
theorem LB (s:ByteArray)(b i:Nat)(hb:b<s.size):Wd.partOf s.data.toList b i=⟨((s[b].toNat:Nat):Int),b,(s.extract (b+2) i).data.toList⟩:=by
 rw[Wd.pV,Wd.dz s b hb];rfl
theorem NG (s:ByteArray)(w:World)(hs:s.size<=9000) :
  Calls Tryz.prog 84 #[.string s] w fun e w'=>∃v,e=.returned (.agg (Wd.pgA v (Wd.split s.data.toList).F))/\w'.ownsRow w.heap.size 176 3 v (Wd.split s.data.toList).ps.length (Wd.iJ (Wd.split s.data.toList).ps)/\Below w.heap.size w w':=by
 have HL:=hide (Wd.aI s)
 go_enter Tryz.func84,Tryz.ntmps84
 go_wp2_with (first|(refine Be rfl rfl ?_)|(refine Ih rfl rfl ?_)|(refine wpList_store_row rfl 142 _ _ rfl _ _ rfl rfl 142 _ (heap_alloc_last _ _) Tryz.i55 rfl (zi _ _ _ _) ?_))
 have s0:(((w.alloc (.cells (Wd.pgA (.slice none 0 0) fun _=>Wd.fn0) 142)).alloc (.cells (Wd.pgA (.slice none 0 0) fun _=>Wd.fn0) 142)).setRow (w.heap.size+1) (Wd.pgA (.slice none 0 0) fun _=>Wd.fn0)).heap[w.heap.size]?=some (.cells (Wd.pgA (.slice none 0 0) fun _=>Wd.fn0) 142 (0,0)):=by
  rw[setRow_other _ _ _ _ (by omega)];exact heap_alloc2_old _ _ _
 have s1:Pg (((w.alloc (.cells (Wd.pgA (.slice none 0 0) fun _=>Wd.fn0) 142)).alloc (.cells (Wd.pgA (.slice none 0 0) fun _=>Wd.fn0) 142)).setRow (w.heap.size+1) (Wd.pgA (.slice none 0 0) fun _=>Wd.fn0)) (w.heap.size+1) [] (fun _=>Wd.fn0) :=
  ⟨.slice none 0 0,setRow_heap _ _ _ _ _ _ (heap_alloc2_new _ _ _),World.ownsRow_nil _ _ _ _⟩
 have s2:Below w.heap.size w (((w.alloc (.cells (Wd.pgA (.slice none 0 0) fun _=>Wd.fn0) 142)).alloc (.cells (Wd.pgA (.slice none 0 0) fun _=>Wd.fn0) 142)).setRow (w.heap.size+1) (Wd.pgA (.slice none 0 0) fun _=>Wd.fn0)) :=
  below_setRow (((Below.refl _ _).alloc (Nat.le_refl _) _).alloc (by simp) _) (by omega) _
 generalize ((w.alloc (.cells (Wd.pgA (.slice none 0 0) fun _=>Wd.fn0) 142)).alloc (.cells (Wd.pgA (.slice none 0 0) fun _=>Wd.fn0) 142)).setRow (w.heap.size+1) (Wd.pgA (.slice none 0 0) fun _=>Wd.fn0)=W at *
 go_loopw [4,5] (fun a b wr=>∃k:Nat,k<=s.size/\b=.int .i64 k/\a=.int .i64 (((Wd.bS s.data.toList k).begin:Nat):Int)/\wr.heap[w.heap.size]?=some (.cells (Wd.pgA (.slice none 0 0) fun _=>Wd.fn0) 142 (0,0))/\Pg wr (w.heap.size+1) (Wd.bS s.data.toList k).ps (Wd.bS s.data.toList k).F/\Below w.heap.size w wr) (fun _ b _=>s.size-(intOf b).toNat)
 case atStart=>exact ⟨0,Nat.zero_le _,rfl,rfl,s0,s1,s2⟩
 case round =>
  clear s0 s1 s2
  obtain ⟨k,hk,rfl,rfl,hA,hP,hbe⟩:=hrel
  have HA:=hide hA
  have HP:=hide hP
  have HB:=hide hbe
  clear hA hP hbe
  by_cases hlt:k<s.size
  ·have hbg:=Wd.Bq s.data.toList k
   have hpl:=Wd.Cm s.data.toList k
   have HS:=hide (show Wd.bS s.data.toList (k+1)=Wd.lC s.data.toList (Wd.bS s.data.toList k) k from rfl)
   have HC:=hide (Wd.dz s k hlt)
   generalize Wd.bS s.data.toList k=sp at *
   obtain ⟨bg,ps,F⟩:=sp
   simp only at hbg hpl
   cases hc:(((s[k].toNat:Nat):Int)==125)
   ·have HE:Hid (Wd.bS s.data.toList (k+1)=⟨bg,ps,F⟩):=by
     simp at hc
     apply hide;rw[HS.out,Wd.lC,if_neg];rw[<-HC.out];exact fun h=>hc h.1
    go_wp2_with fail
    go_roundw
    case rel=>exact ⟨k+1,by omega,by go_num,by rw[HE.out],HA.out,by rw[HE.out];exact HP.out,HB.out⟩
    case measure=>simp[intOf];omega
   ·by_cases hb2:bg+2<=k
    ·have HE:Hid (Wd.bS s.data.toList (k+1)=⟨k+1,ps++[Wd.partOf s.data.toList bg k],Wd.fu F (Wd.partOf s.data.toList bg k)⟩):=by
      simp at hc
      apply hide;rw[HS.out,Wd.lC,if_pos];rw[<-HC.out];exact ⟨by omega,hb2⟩
     have b0:=Wd.iL s.data.toList bg
     have b1:=Wd.iD s.data.toList bg
     have hbs:bg<s.size:=by omega
     rw[<-Wd.dz s bg hbs] at b0 b1
     have HPO:=hide (LB s bg k hbs)
     have hbi:(0:Int)<=(bg:Int):=by omega
     have hbj:(bg:Int)<(s.size:Int):=by omega
     have hbk:(bg:Int)+2<=(k:Int):=by omega
     have hbl:(k:Int)<=(s.size:Int):=by omega
     go_wp2_with fail
     have hwr:=wrap_small ((bg:Int)+2) (by omega) (by omega)
     have h02:(0:Int)<=(bg:Int)+2:=by omega
     go_region_held3 (fun _=>True) (trivial) (first|(go_at_call 110;refine (Rw _ _ _ _ _ _ _ b0 b1 (by omega) (Pg.draw HP.out)).mono ?_;rintro e w' ⟨rfl,hpg,hb⟩))
     go_wp2
     refine ⟨⟨k+1,by omega,by go_num,by rw[HE.out];go_num,?_,by rw[HE.out,HPO.out];exact hpg,HB.out.drew.trans (hb.mono (by omega))⟩,by simp[intOf];omega⟩
     rw[hb.block w.heap.size (by omega)];exact HA.out
    ·have HE:Hid (Wd.bS s.data.toList (k+1)=⟨bg,ps,F⟩):=by
      apply hide;rw[HS.out,Wd.lC,if_neg];exact fun h=>hb2 h.2
     go_wp2_with fail
     go_roundw
     case rel=>exact ⟨k+1,by omega,by go_num,by rw[HE.out],HA.out,by rw[HE.out];exact HP.out,HB.out⟩
     case measure=>simp[intOf];omega
  ·obtain rfl:k=s.size:=by omega
   obtain ⟨v,hh,hown⟩:=HP.out
   obtain ⟨ao,cap,hv⟩:∃ao cap,v=.slice ao (Wd.bS s.data.toList s.size).ps.length cap:=by
    rcases hown.2 with ⟨h1,h2⟩ | ⟨g,cap,cur,h1,_⟩
    ·exact ⟨none,0,by rw[h1,h2]⟩
    ·exact ⟨_,_,h1⟩
   have hsp:Wd.split s.data.toList=Wd.bS s.data.toList s.size:=by rw[Wd.split,HL.out]
   have HSP:=hide hsp
   have HH:=hide hh
   have HO:=hide hown
   have HV:=hide hv
   clear hh hown hsp hv
   go_wp2_with (first|(refine wpList_load_row rfl 142 _ rfl _ rfl 142 _ (0,0) _ HH.out Tryz.underlying142 rfl Tryz.i55 ?_)|(refine wpList_store_row rfl 142 _ _ rfl _ _ rfl rfl 142 _ HA.out Tryz.i55 rfl (by rw[HV.out];exact zi _ _ _ _) ?_))
   refine bodyPost_ret (v:=.agg (Wd.pgA v (Wd.split s.data.toList).F)) (results_cell_row Tryz.results84 _ _ w.heap.size 142 _ (0,0) _ rfl (by rw[HSP.out];exact setRow_heap _ _ _ _ _ _ HA.out) Tryz.underlying142 rfl Tryz.i55) rfl ⟨v,rfl,?_,below_setRow HB.out (Nat.le_refl _) _⟩
   rw[HSP.out]
   obtain ⟨r1,r2⟩:=HO.out
   refine ⟨r1,?_⟩
   rcases r2 with r2 | ⟨g,cap,cur,hv,hg,hh,r⟩
   ·exact .inl r2
   ·exact .inr ⟨g,cap,cur,hv,by omega,by rw[setRow_other _ _ _ _ (by omega)];exact hh,r⟩
theorem ug (s:ByteArray)(F:Nat->Wd.Fn)(v:Value)(b:Nat)(w:World)(hs:s.size<=10000)(hb:w.heap[b]?=some (.cells (Wd.pgA v F) 142 (0,0))) :
  Calls Tryz.prog 112 #[.pointer (some ⟨b,0,none⟩),.string s] w fun e w'=>e=.returned (.int .i64 (Wd.toInt (Wd.unknown F s.data.toList)))/\w'=w:=by
 have HL:=hide (Wd.aI s)
 have HH:=hide hb
 clear hb
 go_enter Tryz.func112,Tryz.ntmps112
 go_wp2
 go_loop [5] (fun i=>∃k:Nat,k<=s.size/\i=.int .i64 k/\(∀j,j<k->Wd.mo F s.data.toList j=false)) (fun i=>s.size-(intOf i).toNat)
 case atStart=>exact ⟨0,Nat.zero_le _,rfl,fun j hj=>by omega⟩
 case round =>
  obtain ⟨k,hk,rfl,hno⟩:=hrel
  have HN:=hide hno
  clear hno
  by_cases hlt:k<s.size
  ·have HP:=hide (Wd.PI F s k hlt)
   have b0:=Wd.iL s.data.toList k
   have b1:=Wd.iD s.data.toList k
   rw[<-Wd.dz s k hlt] at b0 b1
   cases hu:Wd.up ((s[k].toNat:Nat):Int)
   ·go_wp2_with (go_at_call 111;refine (dN _ _ b0 b1).mono ?_;rw[hu];rintro e w' ⟨rfl,rfl⟩)
    go_round
    case rel=>exact ⟨k+1,by omega,by go_num,fun j hj=>by
     by_cases e:j=k
     ·subst e;rw[HP.out,hu];rfl
     ·exact HN.out j (by omega)⟩
    case measure=>simp[intOf];omega
   ·have hu':=hu
    simp[Wd.up] at hu'
    have c0:w.cell? ⟨b,1+(s[k].toNat-65)*5,none⟩=some (.bool (F (s[k].toNat-65)).there):=aj HH.out (Wd.fH _ F _ 0 (by omega) _ rfl)
    cases ht:(F (s[k].toNat-65)).there
    ·rw[ht] at c0
     go_wp2_with (go_at_call 111;refine (dN _ _ b0 b1).mono ?_;rw[hu];rintro e w' ⟨rfl,rfl⟩)
     go_ret
     refine ⟨aO ?_,rfl⟩
     rw[Wd.unknown,HL.out,Wd.jL hlt (by rw[HP.out,hu,ht];rfl) HN.out];rfl
    ·rw[ht] at c0
     go_wp2_with (go_at_call 111;refine (dN _ _ b0 b1).mono ?_;rw[hu];rintro e w' ⟨rfl,rfl⟩)
     go_round
     case rel=>exact ⟨k+1,by omega,by go_num,fun j hj=>by
      by_cases e:j=k
      ·subst e;rw[HP.out,hu,ht];rfl
      ·exact HN.out j (by omega)⟩
     case measure=>simp[intOf];omega
  ·go_wp2
   go_ret
   refine ⟨aO ?_,rfl⟩
   rw[Wd.unknown,HL.out,Wd.lJ (fun j hj=>HN.out j (by omega))];rfl
theorem J9 (s:ByteArray)(F:Nat->Wd.Fn)(v:Value)(b:Nat)(w:World)(hs:s.size<=10000)(hb:w.heap[b]?=some (.cells (Wd.pgA v F) 142 (0,0))) :
  Calls Tryz.prog 135 #[.pointer (some ⟨b,0,none⟩),.string s] w fun e w'=>e=.returned (.bool (Wd.jO F s.data.toList))/\w'=w:=by
 have HL:=hide (Wd.aI s)
 have HH:=hide hb
 clear hb
 go_enter Tryz.func135,Tryz.ntmps135
 go_wp2
 go_loop [5] (fun i=>∃k:Nat,k<=s.size/\i=.int .i64 k/\(∀j,j<k->Wd.qy F s.data.toList j=false)) (fun i=>s.size-(intOf i).toNat)
 case atStart=>exact ⟨0,Nat.zero_le _,rfl,fun j hj=>by omega⟩
 case round =>
  obtain ⟨k,hk,rfl,hno⟩:=hrel
  have HN:=hide hno
  clear hno
  by_cases hlt:k<s.size
  ·have HP:=hide (Wd.J6 F s k hlt)
   have b0:=Wd.iL s.data.toList k
   have b1:=Wd.iD s.data.toList k
   rw[<-Wd.dz s k hlt] at b0 b1
   cases hu:Wd.up ((s[k].toNat:Nat):Int)
   ·go_wp2_with (go_at_call 111;refine (dN _ _ b0 b1).mono ?_;rw[hu];rintro e w' ⟨rfl,rfl⟩)
    go_round
    case rel=>exact ⟨k+1,by omega,by go_num,fun j hj=>by
     by_cases e:j=k
     ·subst e;rw[HP.out,hu];rfl
     ·exact HN.out j (by omega)⟩
    case measure=>simp[intOf];omega
   ·have hu':=hu
    simp[Wd.up] at hu'
    have c0:w.cell? ⟨b,1+(s[k].toNat-65)*5+2,none⟩=some (.bool (F (s[k].toNat-65)).done):=aj HH.out (Wd.fH _ F _ 2 (by omega) _ rfl)
    cases ht:(F (s[k].toNat-65)).done
    ·rw[ht] at c0
     go_wp2_with (go_at_call 111;refine (dN _ _ b0 b1).mono ?_;rw[hu];rintro e w' ⟨rfl,rfl⟩)
     go_ret
     exact ⟨by rw[Wd.jO,HL.out,Wd.jL hlt (by rw[HP.out,hu,ht];rfl) HN.out];rfl,rfl⟩
    ·rw[ht] at c0
     go_wp2_with (go_at_call 111;refine (dN _ _ b0 b1).mono ?_;rw[hu];rintro e w' ⟨rfl,rfl⟩)
     go_round
     case rel=>exact ⟨k+1,by omega,by go_num,fun j hj=>by
      by_cases e:j=k
      ·subst e;rw[HP.out,hu,ht];rfl
      ·exact HN.out j (by omega)⟩
     case measure=>simp[intOf];omega
  ·go_wp2
   go_ret
   exact ⟨by rw[Wd.jO,HL.out,Wd.lJ (fun j hj=>HN.out j (by omega))];rfl,rfl⟩
def Fj (w:World)(r:Option (List UInt8))(e:Ending)(w':World):Prop :=
 Below w.heap.size w w'/\(match r with|some t=>e=.returned (.tuple #[.string (Wd.mkS t),.bool true])|none=>e=.returned (.tuple #[.string ⟨#[]⟩,.bool false]))
theorem mG {w:World}{base:Nat}{e:TypeId}{size:Nat}{v:Value}{n:Nat}{xs:List Value}(h:w.ownsRow base e size v n xs)(hv:v≠.slice none 0 0):∃g cap,v=.slice (some ⟨g,0,none⟩) n cap:=by
 rcases h.2 with ⟨h1,_⟩ | ⟨g,cap,cur,h1,_⟩
 ·exact absurd h1 hv
 ·exact ⟨g,cap,h1⟩
theorem DY {w:World}{base:Nat}{g cap:Nat}{l:List UInt8}(h:w.ownsRow base 5 1 (.slice (some ⟨g,0,none⟩) l.length cap) l.length (Wd.aZ l)) :
  ∀j (hj:j<l.length),w.cell? ((⟨g,0,none⟩:Addr).add j)=some (.int .u8 ((l[j].toNat:Nat):Int)):=by
 intro j hj
 have:=h.cells (g:=g) rfl j (.int .u8 ((l[j].toNat:Nat):Int)) (by simp[Wd.aZ,Wd.bt,hj])
 exact this
theorem Df (a b:List UInt8):Wd.aZ (a++b)=Wd.aZ a++Wd.aZ b:=by simp[Wd.aZ]
theorem Dg (s:ByteArray)(F:Nat->Wd.Fn)(v:Value)(b:Nat)(w:World)(hs:s.size<=10000)(hF:∀j,(F j).text.length<=300)(hb:w.heap[b]?=some (.cells (Wd.pgA v F) 142 (0,0))) :
  Calls Tryz.prog 114 #[.pointer (some ⟨b,0,none⟩),.string s] w (Fj w (Wd.unfold F s.data.toList)):=by
 have HH:=hide hb
 have HF:=hide hF
 clear hb hF
 obtain ⟨i0,hi,hz0,hz1,hz2⟩:=info_parts Tryz.info5
 have hr0:Hid (Wd.unfold F s.data.toList=Wd.unf F (s.data.toList.drop 0) []):=rfl
 generalize hr:Wd.unfold F s.data.toList=r at *
 clear hr
 go_enter Tryz.func114,Tryz.ntmps114
 go_wp2
 have s0:(w.alloc (.cells #[] 5)).ownsRow w.heap.size 5 1 (.slice (some ⟨w.heap.size,0,none⟩) 0 0) 0 []:=World.ownsRow_made w #[] 0 (Nat.le_refl _) (by unfold maxLen;omega) rfl
 have s1:Below w.heap.size w (w.alloc (.cells #[] 5)):=(Below.refl _ _).alloc (Nat.le_refl _) _
 generalize w.alloc (.cells #[] 5)=W at *
 go_loopw [6,7] (fun a b wr=>∃(k:Nat) (acc:List UInt8) (g cap:Nat),k<=s.size/\b=.int .i64 k/\acc.length<=300/\a=.slice (some ⟨g,0,none⟩) acc.length cap/\wr.ownsRow w.heap.size 5 1 (.slice (some ⟨g,0,none⟩) acc.length cap) acc.length (Wd.aZ acc)/\r=Wd.unf F (s.data.toList.drop k) acc/\Below w.heap.size w wr) (fun _ b _=>s.size-(intOf b).toNat)
 case atStart=>exact ⟨0,[],w.heap.size,0,Nat.zero_le _,rfl,by simp,rfl,s0,hr0.out,s1⟩
 case round =>
  clear s0 s1 hr0
  obtain ⟨k,acc,g,cap,hk,rfl,hal,rfl,hown,hr,hbe⟩:=hrel
  have HO:=hide hown
  have HR:=hide hr
  have HB:=hide hbe
  clear hown hr hbe
  by_cases hlt:k<s.size
  ·have HS:=hide (Wd.PK F s k acc hlt)
   have b0:=Wd.iL s.data.toList k
   have b1:=Wd.iD s.data.toList k
   rw[<-Wd.dz s k hlt] at b0 b1
   cases hu:Wd.up ((s[k].toNat:Nat):Int)
   ·have HE:Hid (r=if 300<(acc++[s[k]]).length then none else Wd.unf F (s.data.toList.drop (k+1)) (acc++[s[k]])):=by
     apply hide;rw[HR.out,HS.out,hu];rfl
    by_cases hg:300<acc.length+1
    ·have HE2:Hid (r=none):=by apply hide;rw[HE.out,if_pos (by simp;omega)]
     go_wp2_with (first|(go_at_call 111;refine (dN _ _ b0 b1).mono ?_;rw[hu];rintro e w' ⟨rfl,rfl⟩)|(at_builtin;refine wpList_append_own _ rfl _ _ 63 rfl w.heap.size 5 i0 (.int .u8 0) 1 1 Tryz.underlying63 hi hz0 hz1 hz2 rfl (by decide) _ _ _ rfl (HO.out.alloc _) ⟨_,0,none⟩ 1 1 [.int .u8 ((s[k].toNat:Nat):Int)] rfl rfl (cell_one_new _ _ _) (fun x hx=>by simp at hx;subst hx;rfl) (by unfold maxLen;omega) (by omega) (by have:=HB.out.size;simp;omega) ?_;intro v' w3 hown' hgrow3 hnil3;obtain ⟨g',cap',rfl⟩:=mG hown' (fun e=>by have h9:=(hnil3.1 e).1;cases h9);have HG:=hide hgrow3;have HW:=hide hown';clear hgrow3 hown' hnil3))
     go_ret2
     rw[HE2.out]
     exact ⟨((HB.out.alloc HB.out.size _).grown HG.out (by have:=HB.out.size;simp;omega) (fun q hq=>(HO.out.lt q hq).1)),rfl⟩
    ·have HE2:Hid (r=Wd.unf F (s.data.toList.drop (k+1)) (acc++[s[k]])):=by apply hide;rw[HE.out,if_neg (by simp;omega)]
     go_wp2_with (first|(go_at_call 111;refine (dN _ _ b0 b1).mono ?_;rw[hu];rintro e w' ⟨rfl,rfl⟩)|(at_builtin;refine wpList_append_own _ rfl _ _ 63 rfl w.heap.size 5 i0 (.int .u8 0) 1 1 Tryz.underlying63 hi hz0 hz1 hz2 rfl (by decide) _ _ _ rfl (HO.out.alloc _) ⟨_,0,none⟩ 1 1 [.int .u8 ((s[k].toNat:Nat):Int)] rfl rfl (cell_one_new _ _ _) (fun x hx=>by simp at hx;subst hx;rfl) (by unfold maxLen;omega) (by omega) (by have:=HB.out.size;simp;omega) ?_;intro v' w3 hown' hgrow3 hnil3;obtain ⟨g',cap',rfl⟩:=mG hown' (fun e=>by have h9:=(hnil3.1 e).1;cases h9);have HG:=hide hgrow3;have HW:=hide hown';clear hgrow3 hown' hnil3))
     refine ⟨⟨k+1,acc++[s[k]],g',cap',by omega,by go_num,by simp;omega,by simp,?_,HE2.out,((HB.out.alloc HB.out.size _).grown HG.out (by have:=HB.out.size;simp;omega) (fun q hq=>(HO.out.lt q hq).1))⟩,by simp[intOf];omega⟩
     rw[Df]
     have:=HW.out
     simpa [Wd.aZ,Wd.bt] using this
   ·have hu':=hu
    simp[Wd.up] at hu'
    have HBl:=hide (dw HB.out HH.out)
    have r0:wr.cell? ⟨b,1+(s[k].toNat-65)*5,none⟩=some (.bool (F (s[k].toNat-65)).there):=aj HBl.out (Wd.fH _ F _ 0 (by omega) _ rfl)
    have r1:wr.cell? ⟨b,1+(s[k].toNat-65)*5+1,none⟩=some (.string (Wd.mkS (F (s[k].toNat-65)).body)):=aj HBl.out (Wd.fH _ F _ 1 (by omega) _ rfl)
    have r2:wr.cell? ⟨b,1+(s[k].toNat-65)*5+2,none⟩=some (.bool (F (s[k].toNat-65)).done):=aj HBl.out (Wd.fH _ F _ 2 (by omega) _ rfl)
    have r3:wr.cell? ⟨b,1+(s[k].toNat-65)*5+3,none⟩=some (.bool (F (s[k].toNat-65)).fits):=aj HBl.out (Wd.fH _ F _ 3 (by omega) _ rfl)
    have r4:wr.cell? ⟨b,1+(s[k].toNat-65)*5+4,none⟩=some (.string (Wd.mkS (F (s[k].toNat-65)).text)):=aj HBl.out (Wd.fH _ F _ 4 (by omega) _ rfl)
    have htl:=HF.out (s[k].toNat-65)
    have HE:Hid (r=if (F (s[k].toNat-65)).fits=true then (if 300<(acc++(F (s[k].toNat-65)).text).length then none else Wd.unf F (s.data.toList.drop (k+1)) (acc++(F (s[k].toNat-65)).text)) else none):=by
     apply hide;rw[HR.out,HS.out,hu];rfl
    generalize F (s[k].toNat-65)=f at *
    obtain ⟨fth,fbd,fdn,fft,ftx⟩:=f
    simp only at r0 r1 r2 r3 r4 htl HE
    have htx:(Wd.mkS ftx).size=ftx.length:=Wd.bN ftx
    have hsc:Hid (Lib.strCells (Wd.mkS ftx)=Wd.aZ ftx):=rfl
    generalize Wd.mkS ftx=tx at *
    generalize Wd.mkS fbd=bd at *
    have hts:tx.size<=300:=by omega
    have HTX:=hide htx
    clear htx
    cases fft
    ·have HE2:Hid (r=none):=by apply hide;rw[HE.out];rfl
     go_wp2_with (go_at_call 111;refine (dN _ _ b0 b1).mono ?_;rw[hu];rintro e w' ⟨rfl,rfl⟩)
     go_ret2
     rw[HE2.out]
     exact ⟨HB.out.alloc HB.out.size _,rfl⟩
    ·by_cases hg:300<acc.length+tx.size
     ·have HE2:Hid (r=none):=by
       have:=HTX.out
       apply hide;rw[HE.out,if_pos rfl,if_pos (by simp;omega)]
      go_wp2_with (first|(go_at_call 111;refine (dN _ _ b0 b1).mono ?_;rw[hu];rintro e w' ⟨rfl,rfl⟩)|(at_builtin;refine Lib.wpList_append_own_string _ rfl _ _ 63 9 rfl w.heap.size 5 i0 Tryz.underlying63 Tryz.underlying9 hi hz0 hz1 hz2 _ _ _ rfl (HO.out.alloc _) tx rfl (by unfold maxLen;omega) (by omega) (by have:=HB.out.size;simp;omega) ?_;intro v' w3 hown' hgrow3 hnil3;obtain ⟨g',cap',rfl⟩:=mG hown' (fun e=>by have h9:=(hnil3.1 e).1;cases h9);have HG:=hide hgrow3;have HW:=hide hown';clear hgrow3 hown' hnil3))
      go_ret2
      rw[HE2.out]
      exact ⟨(((HB.out.alloc HB.out.size _)).grown HG.out (by have:=HB.out.size;simp;omega) (fun q hq=>(HO.out.lt q hq).1)),rfl⟩
     ·have HE2:Hid (r=Wd.unf F (s.data.toList.drop (k+1)) (acc++ftx)):=by
       have:=HTX.out
       apply hide;rw[HE.out,if_pos rfl,if_neg (by simp;omega)]
      go_wp2_with (first|(go_at_call 111;refine (dN _ _ b0 b1).mono ?_;rw[hu];rintro e w' ⟨rfl,rfl⟩)|(at_builtin;refine Lib.wpList_append_own_string _ rfl _ _ 63 9 rfl w.heap.size 5 i0 Tryz.underlying63 Tryz.underlying9 hi hz0 hz1 hz2 _ _ _ rfl (HO.out.alloc _) tx rfl (by unfold maxLen;omega) (by omega) (by have:=HB.out.size;simp;omega) ?_;intro v' w3 hown' hgrow3 hnil3;obtain ⟨g',cap',rfl⟩:=mG hown' (fun e=>by have h9:=(hnil3.1 e).1;cases h9);have HG:=hide hgrow3;have HW:=hide hown';clear hgrow3 hown' hnil3))
      have htx:=HTX.out
      refine ⟨⟨k+1,acc++ftx,g',cap',by omega,by go_num,by simp;omega,by simp[htx],?_,HE2.out,(((HB.out.alloc HB.out.size _)).grown HG.out (by have:=HB.out.size;simp;omega) (fun q hq=>(HO.out.lt q hq).1))⟩,by simp[intOf];omega⟩
      rw[Df,List.length_append,<-htx,<-hsc.out]
      exact HW.out
  ·have hcv:=run_convert_bytes_back (P:=Tryz.prog) wr 63 9 5 ⟨g,0,none⟩ cap acc Tryz.underlying63 Tryz.underlying5 Tryz.underlying9 (DY HO.out)
   go_wp2
   go_ret2
   rw[HR.out,Wd.Rx F s k acc (by omega)]
   exact ⟨HB.out,rfl⟩
namespace Wd
theorem yx (ps:List Part)(j k:Nat)(hj:j<ps.length)(hk:k<3):(iJ ps)[j*3+k]?=(mM ps[j])[k]?:=by
 induction ps generalizing j with
 | nil=>simp at hj
 | cons p r ih =>
  have e:iJ (p::r)=mM p++iJ r:=rfl
  rw[e]
  cases j with
  | zero =>
   rw[List.getElem?_append_left (by simp[mM];omega)]
   simp
  | succ j =>
   rw[List.getElem?_append_right (by simp[mM];omega)]
   have e2:(j+1)*3+k-(mM p).length=j*3+k:=by simp[mM];omega
   rw[e2,ih j (by simpa using hj)]
   simp
def oG (b:Nat->Bool):Array Value:=#[.bool (b 0),.bool (b 1),.bool (b 2),.bool (b 3),.bool (b 4),.bool (b 5),.bool (b 6),.bool (b 7)]
theorem PL (b:Nat->Bool)(j:Nat)(h:j<8):(oG b)[j]?=some (.bool (b j)):=by
 match j,h with
 | 0,_|1,_|2,_|3,_|4,_|5,_|6,_|7,_=>rfl
theorem NH (b:Nat->Bool)(f:Nat)(v:Bool)(h:f<8):(oG b).setIfInBounds f (.bool v)=oG (fun j=>if j=f then v else b j):=by
 match f,h with
 | 0,_|1,_|2,_|3,_|4,_|5,_|6,_|7,_=>simp[oG]
def jN (F:Nat->Fn):List Part->(Nat->Bool)->Option Nat
 | [],_=>none
 | p::r,seen =>
  if up p.letter=true/\seen (p.letter-65).toNat=true then some p.pos
  else match unknown F p.body with
   | some u=>some (p.pos+2+u)
   | none=>jN F r (if up p.letter=true then (fun j=>if j=(p.letter-65).toNat then true else seen j) else seen)
def names (F:Nat->Fn)(ps:List Part):Option Nat:=jN F ps (fun _=>false)
def Part.fine (p:Part):Prop:=0<=p.letter/\p.letter<=255/\p.pos<=10000/\p.body.length<=10000
theorem PN {p:Nat->Bool}{n k:Nat}(h:first p n=some k):k<n:=by
 unfold first at h
 have:=List.mem_of_find?_eq_some h
 simpa using this
theorem xU {F:Nat->Fn}{l:List UInt8}{k:Nat}(h:unknown F l=some k):k<l.length:=PN h
def eY (F:Nat->Fn)(f:Fn):Fn:=match unfold F f.body with
 | some x=>⟨f.there,f.body,true,true,x⟩
 | none=>⟨f.there,f.body,true,false,[]⟩
def dh (F:Nat->Fn)(n:Nat):Nat->Fn:=if (F n).there=true/\(F n).done=false/\jO F (F n).body=true then (fun j=>if j=n then eY F (F n) else F j) else F
def fF (F:Nat->Fn):Nat->Nat->Fn
 | 0=>F
 | n+1=>dh (fF F n) n
def bJ (F:Nat->Fn):Nat->Nat->Fn
 | 0=>F
 | n+1=>fF (bJ F n) 8
def kF (F:Nat->Fn):Prop:=∀j,(F j).text.length<=300/\(F j).body.length<=10000
theorem Fp (F:Nat->Fn)(l acc x:List UInt8)(ha:acc.length<=300)(h:unf F l acc=some x):x.length<=300:=by
 induction l generalizing acc with
 | nil=>simp[unf] at h;subst h;exact ha
 | cons c r ih =>
  unfold unf at h
  split at h
  ·split at h
   ·split at h
    ·cases h
    ·exact ih _ (by omega) h
   ·cases h
  ·split at h
   ·cases h
   ·exact ih _ (by omega) h
theorem LC {F:Nat->Fn}(h:kF F)(n:Nat):(eY F (F n)).text.length<=300/\(eY F (F n)).body.length<=10000:=by
 unfold eY
 split
 ·next x hx=>exact ⟨Fp F _ [] x (by simp) hx,(h n).2⟩
 ·exact ⟨by simp,(h n).2⟩
theorem Ii {F:Nat->Fn}(h:kF F)(n:Nat):kF (dh F n):=by
 intro j
 unfold dh
 split
 ·by_cases e:j=n
  ·subst e;simp only[if_true];exact LC h j
  ·simp only[e,if_false];exact h j
 ·exact h j
theorem BO {F:Nat->Fn}(h:kF F)(n:Nat):kF (fF F n):=by
 induction n with
 | zero=>exact h
 | succ n ih=>exact Ii ih n
theorem Bt {F:Nat->Fn}(h:kF F)(n:Nat):kF (bJ F n):=by
 induction n with
 | zero=>exact h
 | succ n ih=>exact BO ih 8
def wH (F:Nat->Fn)(j:Nat):Bool:=(F j).there&&!(F j).done
def left (F:Nat->Fn):Bool:=(first (wH F) 8).isSome
structure It where
 handler:Bool
 body:List UInt8
def itV (p:It):List Value:=[.bool p.handler,.string (mkS p.body)]
def dV (ps:List It):List Value:=ps.flatMap itV
theorem DZ (ps:List It)(p:It):dV (ps++[p])=dV ps++itV p:=by simp[dV]
def dR (F:Nat->Fn):List Part->List It->Except Nat (List It)
 | [],acc=>.ok acc
 | p::r,acc =>
  if up p.letter=true then dR F r acc
  else match unfold F p.body with
   | some x=>dR F r (acc++[⟨p.letter==104,x⟩])
   | none=>.error acc.length
def items (F:Nat->Fn)(ps:List Part):Except Nat (List It):=dR F ps []
end Wd
end Go.Proofs.YtecmfdkhcffpmaaGreat
