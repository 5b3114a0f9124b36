/- MacI, MacJ. -/
import Derived.Test.YtecmfdkhcffpmaaGreatB16
import Derived.Deep.RegionWith
namespace Go.Proofs.YtecmfdkhcffpmaaGreat
open Go.RowKit
set_option linter.unusedVariables false
set_option linter.unusedSimpArgs false
set_option linter.unusedSectionVars false
set_option maxHeartbeats 8000000
set_option maxRecDepth 100000
section
open Mc
theorem uf {P:Program}{fn:Func}{u p:Tmp}{ty:TypeId}(h:fn.results=#[.tmp u,.cell p ty])(tmps:Array Value)(w:World)(g:Nat)(t:TypeId)(cs:Array Value)(fr:Nat×Nat)(d:TypeDesc)
  (hp:tmps.getD p undef=.pointer (some ⟨g,0,none⟩)) (hg:w.heap[g]?=some (.cells cs t fr))
  (hu:P.underlying ty=some d) (hd:(match d with | .struct _ | .array _ _=>true|_=>false)=true) (hi:(P.info? ty).map (·.size)=some cs.size) (v:Value) (hv:tmps.getD u undef=v) :
  (results fn tmps).run P w=.ok (.tuple #[v,.agg cs]) w:=by
 have hp':tmps[p]?.getD undef=.pointer (some ⟨g,0,none⟩):=by simpa using hp
 have hv':tmps[u]?.getD undef=v:=by simpa using hv
 simp[results,h,hp',hv',asAddr,run_loadVar_row w g t ty cs fr d hg hu hd hi]
theorem nW {P:Program}{fn:Func}{u p x:Tmp}{ty:TypeId}(h:fn.results=#[.tmp u,.cell p ty,.tmp x])(tmps:Array Value)(w:World)(g:Nat)(t:TypeId)(cs:Array Value)(fr:Nat×Nat)(d:TypeDesc)
  (hp:tmps.getD p undef=.pointer (some ⟨g,0,none⟩)) (hg:w.heap[g]?=some (.cells cs t fr))
  (hu:P.underlying ty=some d) (hd:(match d with | .struct _ | .array _ _=>true|_=>false)=true) (hi:(P.info? ty).map (·.size)=some cs.size) (v y:Value) (hv:tmps.getD u undef=v) (hy:tmps.getD x undef=y) :
  (results fn tmps).run P w=.ok (.tuple #[v,.agg cs,y]) w:=by
 have hp':tmps[p]?.getD undef=.pointer (some ⟨g,0,none⟩):=by simpa using hp
 have hv':tmps[u]?.getD undef=v:=by simpa using hv
 have hy':tmps[x]?.getD undef=y:=by simpa using hy
 simp[results,h,hp',hv',hy',asAddr,run_loadVar_row w g t ty cs fr d hg hu hd hi]
theorem Gz {w:World}{g:Nat}{t:TypeId}{a b c d:Value}(h:w.heap[g]?=some (.cells #[a,b,c,d] t (0,0)))(a' b' c' d':Value) :
  ((((w.setCell ⟨g,0,none⟩ a').setCell ⟨g,1,none⟩ b').setCell ⟨g,2,none⟩ c').setCell ⟨g,3,none⟩ d').heap[g]?=some (.cells #[a',b',c',d'] t (0,0)) :=
 heap_setCell_same _ _ _ _ _ _ (heap_setCell_same _ _ _ _ _ _ (heap_setCell_same _ _ _ _ _ _ (heap_setCell_same _ _ _ _ _ _ h)))
theorem NZ (w:World)(N b:Nat)(A:Ad)(its:List Wd.It)(n:Nat)(S:Ma)(c:Nat)(f:Fr)(l:Nat)(h:DM w N b A its n S)(ho:bf its)(hi:Inv its n S)(hn:n<=3)(hc:c<n)(hl:l<=5)(hf:f.held<=1000)(hp:f.pos<=20000) :
  Calls Tryz.prog 93 #[.pointer (some ⟨b,0,none⟩),.int .i64 c,.agg #[.bool f.there,.int .i64 (f.item:Int),.int .i64 (f.pos:Int),.int .i64 (f.held:Int)],.int .i64 l] w fun e w'=>e=.returned (.tuple #[.int .u8 (takes its S n c f l).1,.agg #[.bool (takes its S n c f l).2.there,.int .i64 ((takes its S n c f l).2.item:Int),.int .i64 ((takes its S n c f l).2.pos:Int),.int .i64 ((takes its S n c f l).2.held:Int)]])/\Below w.heap.size w w':=by
 have HM:=hide h
 have HI:=hide hi
 have HO:=hide ho
 have AH:=hide (fun W (hW:DM W N b A its n S)=>Dm W N b A its n S l hW hi hn (by omega))
 have AR:=hide (fun W (hW:DM W N b A its n S)=>P7 W N b A its n S c l hW ho hi hn hc hl)
 clear h hi ho
 cases ed:holder S n l with
 | none =>
  have e:takes its S n c f l=(43,{f with held:=f.held+2 ^ l,pos:=f.pos+2}):=by simp[takes,ed]
  rw[e]
  rw[ed] at AH
  have AH':Hid (∀W,DM W N b A its n S->Calls Tryz.prog 119 #[.pointer (some ⟨b,0,none⟩),.int .i64 l] W fun e w'=>e=.returned (.int .i64 (-1))/\w'=W):=AH
  clear AH e ed
  have t1:((-1:Int)==(c:Int))=false:=by simp
  have hpl:2 ^ l<=32:=Nat.le_trans (Nat.pow_le_pow_right (by omega) hl) (by decide)
  have AP:=hide (fun W=>uY l W (by omega))
  generalize 2 ^ l=pl at *
  have hcast:((f.held+pl:Nat):Int)=(f.held:Int)+(pl:Int):=by omega
  have FO:((f.pos+2:Nat):Int)=(f.pos:Int)+2:=by omega
  simp only[hcast,FO]
  clear hcast FO
  have hw1:IntKind.i64.wrap ((f.held:Int)+(pl:Int))=(f.held:Int)+(pl:Int):=by rw[IntKind.wrap_i64];omega
  go_enter Tryz.func93,Tryz.ntmps93
  go_wp2_with (first|(go_at_call 119;refine (AH'.out _ ((HM.out.alloc _).alloc _)).mono ?_;rintro e w' ⟨rfl,rfl⟩))
  go_region_with (go_at_call 97;refine (AP.out _).mono ?_;rintro e w' ⟨rfl,rfl⟩)
  all_goals go_wp2
  all_goals go_region
  all_goals go_wp2
  all_goals exact bodyPost_ret (uf Tryz.results93 _ _ (w.heap.size+1) 108 #[.bool f.there,.int .i64 (f.item:Int),.int .i64 ((f.pos:Int)+2),.int .i64 ((f.held:Int)+(pl:Int))] (0,0) _ rfl (by simp only[heap_drew];exact heap_alloc2_new _ _ _) Tryz.underlying108 rfl Tryz.iFrame _ rfl) rfl ⟨rfl,((((Below.refl _ _).alloc (Nat.le_refl _) _).alloc (by simp) _).drew).drew⟩
 | some d =>
  rw[ed] at AH
  have hdn:=Ec ed
  by_cases hdc:d=c
  ·have e:takes its S n c f l=(68,f):=by simp[takes,ed,hdc]
   rw[e]
   rw[hdc] at AH
   have AH':Hid (∀W,DM W N b A its n S->Calls Tryz.prog 119 #[.pointer (some ⟨b,0,none⟩),.int .i64 l] W fun e w'=>e=.returned (.int .i64 (c:Int))/\w'=W):=AH
   clear AH e ed hdc
   have t1:((c:Int)==(c:Int))=true:=by simp
   go_enter Tryz.func93,Tryz.ntmps93
   go_wp2_with (first|(go_at_call 119;refine (AH'.out _ ((HM.out.alloc _).alloc _)).mono ?_;rintro e w' ⟨rfl,rfl⟩))
   go_region
   go_wp2
   exact bodyPost_ret (uf Tryz.results93 _ _ (w.heap.size+1) 108 #[.bool f.there,.int .i64 (f.item:Int),.int .i64 (f.pos:Int),.int .i64 (f.held:Int)] (0,0) _ rfl (by simp only[heap_drew];exact heap_alloc2_new _ _ _) Tryz.underlying108 rfl Tryz.iFrame _ rfl) rfl ⟨rfl,((((Below.refl _ _).alloc (Nat.le_refl _) _).alloc (by simp) _).drew)⟩
  ·have AH':Hid (∀W,DM W N b A its n S->Calls Tryz.prog 119 #[.pointer (some ⟨b,0,none⟩),.int .i64 l] W fun e w'=>e=.returned (.int .i64 (d:Int))/\w'=W):=AH
   have t1:((d:Int)==(c:Int))=false:=by simp;omega
   cases er:ring its S n c l
   ·have e:takes its S n c f l=(58,f):=by simp[takes,ed,hdc,er]
    rw[e]
    rw[er] at AR
    clear AH e ed er
    go_enter Tryz.func93,Tryz.ntmps93
    go_wp2_with (first|(go_at_call 119;refine (AH'.out _ ((HM.out.alloc _).alloc _)).mono ?_;rintro e w' ⟨rfl,rfl⟩)|(go_at_call 120;refine (AR.out _ ((HM.out.alloc _).alloc _)).mono ?_;rintro e w1 ⟨rfl,hb1⟩))
    have g0:=hide (dw hb1 (heap_alloc2_old _ _ _))
    have g1:=hide (dw hb1 (heap_alloc2_new _ _ _))
    have HB:=hide (ak (((Below.refl _ _).alloc (Nat.le_refl _) _).alloc (by simp) _) hb1)
    have a0:w1.cell? ⟨w.heap.size,0,none⟩=some (.bool f.there):=aj g0.out rfl
    have a1:w1.cell? ⟨w.heap.size,1,none⟩=some (.int .i64 (f.item:Int)):=aj g0.out rfl
    have a2:w1.cell? ⟨w.heap.size,2,none⟩=some (.int .i64 (f.pos:Int)):=aj g0.out rfl
    have a3:w1.cell? ⟨w.heap.size,3,none⟩=some (.int .i64 (f.held:Int)):=aj g0.out rfl
    have c0:w1.cell? ⟨w.heap.size+1,0,none⟩=some (.bool false):=aj g1.out rfl
    have c1:w1.cell? ⟨w.heap.size+1,1,none⟩=some (.int .i64 0):=aj g1.out rfl
    have c2:w1.cell? ⟨w.heap.size+1,2,none⟩=some (.int .i64 0):=aj g1.out rfl
    have c3:w1.cell? ⟨w.heap.size+1,3,none⟩=some (.int .i64 0):=aj g1.out rfl
    have f0:=frozen_of_row w1 (w.heap.size+1) 0 _ _ g1.out
    have f1:=frozen_of_row w1 (w.heap.size+1) 1 _ _ g1.out
    have f2:=frozen_of_row w1 (w.heap.size+1) 2 _ _ g1.out
    have f3:=frozen_of_row w1 (w.heap.size+1) 3 _ _ g1.out
    clear hb1
    go_region
    go_wp2
    exact bodyPost_ret (uf Tryz.results93 _ _ (w.heap.size+1) 108 #[.bool f.there,.int .i64 (f.item:Int),.int .i64 (f.pos:Int),.int .i64 (f.held:Int)] (0,0) _ rfl (by simp only[heap_drew];exact Gz g1.out _ _ _ _) Tryz.underlying108 rfl Tryz.iFrame _ rfl) rfl ⟨rfl,((((HB.out.setCell (p:=⟨w.heap.size+1,0,none⟩) (by simp) _).setCell (p:=⟨w.heap.size+1,1,none⟩) (by simp) _).setCell (p:=⟨w.heap.size+1,2,none⟩) (by simp) _).setCell (p:=⟨w.heap.size+1,3,none⟩) (by simp) _).drew⟩
   ·have e:takes its S n c f l=(87,f):=by simp[takes,ed,hdc,er]
    rw[e]
    rw[er] at AR
    clear AH e ed er
    go_enter Tryz.func93,Tryz.ntmps93
    go_wp2_with (first|(go_at_call 119;refine (AH'.out _ ((HM.out.alloc _).alloc _)).mono ?_;rintro e w' ⟨rfl,rfl⟩)|(go_at_call 120;refine (AR.out _ ((HM.out.alloc _).alloc _)).mono ?_;rintro e w1 ⟨rfl,hb1⟩))
    have g0:=hide (dw hb1 (heap_alloc2_old _ _ _))
    have g1:=hide (dw hb1 (heap_alloc2_new _ _ _))
    have HB:=hide (ak (((Below.refl _ _).alloc (Nat.le_refl _) _).alloc (by simp) _) hb1)
    have a0:w1.cell? ⟨w.heap.size,0,none⟩=some (.bool f.there):=aj g0.out rfl
    have a1:w1.cell? ⟨w.heap.size,1,none⟩=some (.int .i64 (f.item:Int)):=aj g0.out rfl
    have a2:w1.cell? ⟨w.heap.size,2,none⟩=some (.int .i64 (f.pos:Int)):=aj g0.out rfl
    have a3:w1.cell? ⟨w.heap.size,3,none⟩=some (.int .i64 (f.held:Int)):=aj g0.out rfl
    have c0:w1.cell? ⟨w.heap.size+1,0,none⟩=some (.bool false):=aj g1.out rfl
    have c1:w1.cell? ⟨w.heap.size+1,1,none⟩=some (.int .i64 0):=aj g1.out rfl
    have c2:w1.cell? ⟨w.heap.size+1,2,none⟩=some (.int .i64 0):=aj g1.out rfl
    have c3:w1.cell? ⟨w.heap.size+1,3,none⟩=some (.int .i64 0):=aj g1.out rfl
    have f0:=frozen_of_row w1 (w.heap.size+1) 0 _ _ g1.out
    have f1:=frozen_of_row w1 (w.heap.size+1) 1 _ _ g1.out
    have f2:=frozen_of_row w1 (w.heap.size+1) 2 _ _ g1.out
    have f3:=frozen_of_row w1 (w.heap.size+1) 3 _ _ g1.out
    clear hb1
    go_region
    go_wp2
    exact bodyPost_ret (uf Tryz.results93 _ _ (w.heap.size+1) 108 #[.bool f.there,.int .i64 (f.item:Int),.int .i64 (f.pos:Int),.int .i64 (f.held:Int)] (0,0) _ rfl (by simp only[heap_drew];exact Gz g1.out _ _ _ _) Tryz.underlying108 rfl Tryz.iFrame _ rfl) rfl ⟨rfl,((((HB.out.setCell (p:=⟨w.heap.size+1,0,none⟩) (by simp) _).setCell (p:=⟨w.heap.size+1,1,none⟩) (by simp) _).setCell (p:=⟨w.heap.size+1,2,none⟩) (by simp) _).setCell (p:=⟨w.heap.size+1,3,none⟩) (by simp) _).drew⟩
end
section
open Mc
theorem Ky (its:List Wd.It)(ho:bf its)(i p:Nat)(w:World)(second:Bool)(hi:i<its.length)(hp:p<=20000) :
  Calls Tryz.prog 122 #[.string (Wd.mkS (ah its i)),.int .i64 p,.bool second] w fun e w'=>e=.returned (.int .i64 ((Mc.behind (ah its i) p second:Nat):Int))/\w'=w:=by
 have:=L8 (Wd.mkS (ah its i)) p w second (by rw[Wd.bN];exact ho.body i hi) hp
 rwa [Wd.fM] at this
theorem Qc {held l:Nat}(h:holds held l=true):2 ^ l<=held:=by
 unfold holds at h
 exact Nat.ge_two_pow_of_testBit h
theorem yH (w:World)(its:List Wd.It)(ho:bf its)(i:Nat)(f:Fr)(handler off second:Bool)(hi:i<its.length)(hp:f.pos<=20000)(hf:f.held<=1000) :
  Calls Tryz.prog 95 #[.string (Wd.mkS (ah its i)),.agg #[.bool f.there,.int .i64 (f.item:Int),.int .i64 (f.pos:Int),.int .i64 (f.held:Int)],.bool handler,.bool off,.bool second] w fun e w'=>e=.returned (.tuple #[.int .u8 (alone (ah its i) f handler off second).1,.agg #[.bool (alone (ah its i) f handler off second).2.1.there,.int .i64 ((alone (ah its i) f handler off second).2.1.item:Int),.int .i64 ((alone (ah its i) f handler off second).2.1.pos:Int),.int .i64 ((alone (ah its i) f handler off second).2.1.held:Int)],.bool (alone (ah its i) f handler off second).2.2])/\Below w.heap.size w w':=by
 have AA:=hide (fun W=>lq its ho i f.pos W hi hp)
 have AB:=hide (fun W=>Ky its ho i f.pos W second hi hp)
 have ba:=jG (ah its i) f.pos
 by_cases h45:atB (ah its i) f.pos=45
 ·have AN:=hide (fun W=>ru its ho i f.pos W hi hp (Or.inr (Or.inl h45)))
  have hnl:=yY ho hi (Or.inr h45)
  have hcn:((num (ah its i) f.pos).toNat:Int)=num (ah its i) f.pos:=Int.toNat_of_nonneg hnl.1
  rw[<-hcn] at AN
  have hl5:(num (ah its i) f.pos).toNat<=5:=by omega
  have AH:=hide (fun W=>mE f.held (num (ah its i) f.pos).toNat W (by omega) (by omega))
  cases hh:holds f.held (num (ah its i) f.pos).toNat
  ·have e:alone (ah its i) f handler off second=(85,f,off):=by simp[alone,h45,hh]
   rw[e];rw[h45] at AA;rw[hh] at AH
   clear e h45 hh hcn ba
   generalize (num (ah its i) f.pos).toNat=nl at *
   generalize Wd.mkS (ah its i)=sb at *
   go_enter Tryz.func95,Tryz.ntmps95
   go_wp2_with (first|(go_at_call 68;refine (AA.out _).mono ?_;rintro e w' ⟨rfl,rfl⟩)|(go_at_call 69;refine (AN.out _).mono ?_;rintro e w' ⟨rfl,rfl⟩)|(go_at_call 70;refine (AH.out _).mono ?_;rintro e w' ⟨rfl,rfl⟩)|(go_at_call 122;refine (AB.out _).mono ?_;rintro e w' ⟨rfl,rfl⟩))
   go_region
   go_wp2
   exact bodyPost_ret (nW Tryz.results95 _ _ (w.heap.size+1) 108 #[.bool f.there,.int .i64 (f.item:Int),.int .i64 (f.pos:Int),.int .i64 (f.held:Int)] (0,0) _ rfl (by simp only[heap_drew];exact heap_alloc2_new _ _ _) Tryz.underlying108 rfl Tryz.iFrame _ _ rfl rfl) rfl ⟨rfl,((((Below.refl _ _).alloc (Nat.le_refl _) _).alloc (by simp) _).drew)⟩
  ·have hge:=Qc hh
   have e:alone (ah its i) f handler off second=(45,{f with held:=f.held-2 ^ (num (ah its i) f.pos).toNat,pos:=behind (ah its i) f.pos second},off):=by simp[alone,h45,hh]
   rw[e];rw[h45] at AA;rw[hh] at AH
   have AP:=hide (fun W=>uY (num (ah its i) f.pos).toNat W (by omega))
   clear e h45 hh hcn ba
   generalize (num (ah its i) f.pos).toNat=nl at *
   generalize Wd.mkS (ah its i)=sb at *
   generalize 2 ^ nl=pl at *
   generalize behind (ah its i) f.pos second=bh at *
   have hcast:((f.held-pl:Nat):Int)=(f.held:Int)-(pl:Int):=by omega
   simp only[hcast]
   clear hcast
   have hw1:IntKind.i64.wrap ((f.held:Int)-(pl:Int))=(f.held:Int)-(pl:Int):=by rw[IntKind.wrap_i64];omega
   go_enter Tryz.func95,Tryz.ntmps95
   go_wp2_with (first|(go_at_call 68;refine (AA.out _).mono ?_;rintro e w' ⟨rfl,rfl⟩)|(go_at_call 69;refine (AN.out _).mono ?_;rintro e w' ⟨rfl,rfl⟩)|(go_at_call 70;refine (AH.out _).mono ?_;rintro e w' ⟨rfl,rfl⟩)|(go_at_call 122;refine (AB.out _).mono ?_;rintro e w' ⟨rfl,rfl⟩))
   go_region_with (go_at_call 97;refine (AP.out _).mono ?_;rintro e w' ⟨rfl,rfl⟩)
   all_goals go_wp2_with (first|(go_at_call 68;refine (AA.out _).mono ?_;rintro e w' ⟨rfl,rfl⟩)|(go_at_call 69;refine (AN.out _).mono ?_;rintro e w' ⟨rfl,rfl⟩)|(go_at_call 70;refine (AH.out _).mono ?_;rintro e w' ⟨rfl,rfl⟩)|(go_at_call 122;refine (AB.out _).mono ?_;rintro e w' ⟨rfl,rfl⟩))
   all_goals go_region
   all_goals go_wp2
   all_goals exact bodyPost_ret (nW Tryz.results95 _ _ (w.heap.size+1) 108 #[.bool f.there,.int .i64 (f.item:Int),.int .i64 (bh:Int),.int .i64 ((f.held:Int)-(pl:Int))] (0,0) _ rfl (by simp only[heap_drew];exact heap_alloc2_new _ _ _) Tryz.underlying108 rfl Tryz.iFrame _ _ rfl rfl) rfl ⟨rfl,((((Below.refl _ _).alloc (Nat.le_refl _) _).alloc (by simp) _).drew).drew⟩
 have t45:(atB (ah its i) f.pos==45)=false:=by simp[h45]
 by_cases h60:atB (ah its i) f.pos=60
 ·cases handler
  ·have e:alone (ah its i) f false off second=(60,{f with pos:=behind (ah its i) f.pos second},true):=by simp[alone,h60]
   rw[e];rw[h60] at AA
   clear e h45 h60 ba t45
   generalize Wd.mkS (ah its i)=sb at *
   generalize behind (ah its i) f.pos second=bh at *
   go_enter Tryz.func95,Tryz.ntmps95
   go_wp2_with (first|(go_at_call 68;refine (AA.out _).mono ?_;rintro e w' ⟨rfl,rfl⟩)|(go_at_call 69;refine (AN.out _).mono ?_;rintro e w' ⟨rfl,rfl⟩)|(go_at_call 70;refine (AH.out _).mono ?_;rintro e w' ⟨rfl,rfl⟩)|(go_at_call 122;refine (AB.out _).mono ?_;rintro e w' ⟨rfl,rfl⟩))
   go_region
   go_wp2
   exact bodyPost_ret (nW Tryz.results95 _ _ (w.heap.size+1) 108 #[.bool f.there,.int .i64 (f.item:Int),.int .i64 (bh:Int),.int .i64 (f.held:Int)] (0,0) _ rfl (by simp only[heap_drew];exact heap_alloc2_new _ _ _) Tryz.underlying108 rfl Tryz.iFrame _ _ rfl rfl) rfl ⟨rfl,((((Below.refl _ _).alloc (Nat.le_refl _) _).alloc (by simp) _).drew)⟩
  ·have e:alone (ah its i) f true off second=(73,f,off):=by simp[alone,h60]
   rw[e];rw[h60] at AA
   clear e h45 h60 ba t45
   generalize Wd.mkS (ah its i)=sb at *
   go_enter Tryz.func95,Tryz.ntmps95
   go_wp2_with (first|(go_at_call 68;refine (AA.out _).mono ?_;rintro e w' ⟨rfl,rfl⟩)|(go_at_call 69;refine (AN.out _).mono ?_;rintro e w' ⟨rfl,rfl⟩)|(go_at_call 70;refine (AH.out _).mono ?_;rintro e w' ⟨rfl,rfl⟩)|(go_at_call 122;refine (AB.out _).mono ?_;rintro e w' ⟨rfl,rfl⟩))
   go_region
   go_wp2
   exact bodyPost_ret (nW Tryz.results95 _ _ (w.heap.size+1) 108 #[.bool f.there,.int .i64 (f.item:Int),.int .i64 (f.pos:Int),.int .i64 (f.held:Int)] (0,0) _ rfl (by simp only[heap_drew];exact heap_alloc2_new _ _ _) Tryz.underlying108 rfl Tryz.iFrame _ _ rfl rfl) rfl ⟨rfl,((((Below.refl _ _).alloc (Nat.le_refl _) _).alloc (by simp) _).drew)⟩
 have t60:(atB (ah its i) f.pos==60)=false:=by simp[h60]
 by_cases h62:atB (ah its i) f.pos=62
 ·cases handler
  ·have e:alone (ah its i) f false off second=(62,{f with pos:=behind (ah its i) f.pos second},false):=by simp[alone,h62]
   rw[e];rw[h62] at AA
   clear e h45 h62 h60 ba t45 t60
   generalize Wd.mkS (ah its i)=sb at *
   generalize behind (ah its i) f.pos second=bh at *
   go_enter Tryz.func95,Tryz.ntmps95
   go_wp2_with (first|(go_at_call 68;refine (AA.out _).mono ?_;rintro e w' ⟨rfl,rfl⟩)|(go_at_call 69;refine (AN.out _).mono ?_;rintro e w' ⟨rfl,rfl⟩)|(go_at_call 70;refine (AH.out _).mono ?_;rintro e w' ⟨rfl,rfl⟩)|(go_at_call 122;refine (AB.out _).mono ?_;rintro e w' ⟨rfl,rfl⟩))
   go_region
   go_wp2
   exact bodyPost_ret (nW Tryz.results95 _ _ (w.heap.size+1) 108 #[.bool f.there,.int .i64 (f.item:Int),.int .i64 (bh:Int),.int .i64 (f.held:Int)] (0,0) _ rfl (by simp only[heap_drew];exact heap_alloc2_new _ _ _) Tryz.underlying108 rfl Tryz.iFrame _ _ rfl rfl) rfl ⟨rfl,((((Below.refl _ _).alloc (Nat.le_refl _) _).alloc (by simp) _).drew)⟩
  ·have e:alone (ah its i) f true off second=(73,f,off):=by simp[alone,h62]
   rw[e];rw[h62] at AA
   clear e h45 h62 h60 ba t45 t60
   generalize Wd.mkS (ah its i)=sb at *
   go_enter Tryz.func95,Tryz.ntmps95
   go_wp2_with (first|(go_at_call 68;refine (AA.out _).mono ?_;rintro e w' ⟨rfl,rfl⟩)|(go_at_call 69;refine (AN.out _).mono ?_;rintro e w' ⟨rfl,rfl⟩)|(go_at_call 70;refine (AH.out _).mono ?_;rintro e w' ⟨rfl,rfl⟩)|(go_at_call 122;refine (AB.out _).mono ?_;rintro e w' ⟨rfl,rfl⟩))
   go_region
   go_wp2
   exact bodyPost_ret (nW Tryz.results95 _ _ (w.heap.size+1) 108 #[.bool f.there,.int .i64 (f.item:Int),.int .i64 (f.pos:Int),.int .i64 (f.held:Int)] (0,0) _ rfl (by simp only[heap_drew];exact heap_alloc2_new _ _ _) Tryz.underlying108 rfl Tryz.iFrame _ _ rfl rfl) rfl ⟨rfl,((((Below.refl _ _).alloc (Nat.le_refl _) _).alloc (by simp) _).drew)⟩
 have t62:(atB (ah its i) f.pos==62)=false:=by simp[h62]
 have e:alone (ah its i) f handler off second=(atB (ah its i) f.pos,{f with pos:=behind (ah its i) f.pos second},off):=by simp[alone,h45,h60,h62]
 rw[e]
 clear e h45 h60 h62
 generalize Wd.mkS (ah its i)=sb at *
 generalize behind (ah its i) f.pos second=bh at *
 generalize atB (ah its i) f.pos=ch at *
 go_enter Tryz.func95,Tryz.ntmps95
 go_wp2_with (first|(go_at_call 68;refine (AA.out _).mono ?_;rintro e w' ⟨rfl,rfl⟩)|(go_at_call 69;refine (AN.out _).mono ?_;rintro e w' ⟨rfl,rfl⟩)|(go_at_call 70;refine (AH.out _).mono ?_;rintro e w' ⟨rfl,rfl⟩)|(go_at_call 122;refine (AB.out _).mono ?_;rintro e w' ⟨rfl,rfl⟩))
 go_region
 go_wp2
 exact bodyPost_ret (nW Tryz.results95 _ _ (w.heap.size+1) 108 #[.bool f.there,.int .i64 (f.item:Int),.int .i64 (bh:Int),.int .i64 (f.held:Int)] (0,0) _ rfl (by simp only[heap_drew];exact heap_alloc2_new _ _ _) Tryz.underlying108 rfl Tryz.iFrame _ _ rfl rfl) rfl ⟨rfl,((((Below.refl _ _).alloc (Nat.le_refl _) _).alloc (by simp) _).drew)⟩
end
end Go.Proofs.YtecmfdkhcffpmaaGreat
