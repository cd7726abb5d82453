import Derived.Test.YtgnncnhkgmhngaaGreatDoorJ37
import Derived.Test.YtgnncnhkgmhngaaGreatDoorJ36
set_option maxHeartbeats 2000000
set_option maxRecDepth 100000
namespace Go.Proofs.YtgnncnhkgmhngaaGreatDoor
open Sp
open Go.RowKit Go.Sort
def SJ (w:World) (v:Value) (V:List TV):Prop:=(V = []/\v = .slice none 0 0)\/∃ b off c,v = .slice (some ⟨b,off,none⟩) V.length c/\Lt w b off V
theorem B0 (fv:Value) (w:World):Calls Tryz.prog 187 #[.slice none 0 0,fv] w λe w'=>e = .returned (.int .i64 (-1))/\w'=w:=by
 go_enter Tryz.func187,Tryz.ntmps187
 go_wp2
 go_loopw [8] (λi wr=>i = .int .i64 0/\wr=w) (λ_ _=>0)
 case atStart=>exact ⟨rfl,rfl⟩
 case round=>
  obtain ⟨rfl,rfl⟩:=hrel
  go_wp2_with fail
  go_ret
  exact ⟨rfl,rfl⟩
theorem JW (fv:Value) (w:World):Calls Tryz.prog 143 #[.slice none 0 0,fv] w λe w'=>e = .returned (.slice none 0 0)/\w'=w:=by
 go_enter Tryz.func143,Tryz.ntmps143
 go_wp2_with fail
 refine (B0 _ _).mono ?_
 rintro e w1 ⟨rfl,rfl⟩
 go_wp2_with fail
 go_ret
 exact ⟨rfl,rfl⟩
theorem B7 {V:List TV} {v:Value} {x:ByteArray} {w:World} (h:SJ w v V) (hbig:V.length<=1000) :
  Calls Tryz.prog 88 #[v, .string x] w λe w'=>∃ v',e = .returned v'/\CX w.heap.size w' v' (cI x.toList V)/\RowKit.Below w.heap.size w w':=by
 have GA:=hid ((Gr.refl w).alloc (.cells #[.string x] 9))
 rcases h with ⟨rfl,rfl⟩ | ⟨b,off,c,rfl,hl⟩
 ·go_enter Tryz.func88,Tryz.ntmps88
  go_wp2_with fail
  refine (Ee _).mono ?_
  rintro e w1 ⟨rfl,rfl⟩
  go_wp2_with fail
  refine (JW _ _).mono ?_
  rintro e w1 ⟨rfl,rfl⟩
  go_wp2_with fail
  go_ret
  exact ⟨_,rfl,CX.nil _ _,GA.out.below⟩
 ·have HC:=hid (Ef (c:=c) (hl.gr GA.out) hbig)
  go_enter Tryz.func88,Tryz.ntmps88
  go_wp2_with fail
  refine HC.out.mono ?_
  rintro e w1 ⟨v1,rfl,⟨o1,hne⟩,b1⟩
  have hz1:w.heap.size+1<=w1.heap.size:=by have:=b1.size;simpa using this
  obtain ⟨g,cap,rfl,hgz⟩:∃ g cap,v1 = .slice (some ⟨g,0,none⟩) V.length cap/\w.heap.size+1<=g:=by
   obtain ⟨_,h | ⟨g',cap,cur,hv,h0,_⟩⟩:=o1
   ·exact absurd h.1 hne
   ·exact ⟨g',cap,hv,by simpa using h0⟩
  have cx:w1.cell? ⟨w.heap.size,0,none⟩=some (.string x):=(b1.cell (p:=⟨w.heap.size,0,none⟩) (by simp)).trans (by simp)
  have HB1:Hid (RowKit.Below w.heap.size w w1):=GA.out.below.trans (b1.mono GA.out.size)
  have HD:=hid (BZ o1 hbig (by omega) (by omega) cx)
  clear hne b1 o1 cx HC
  go_wp2_with fail
  refine HD.out.mono ?_
  rintro e w2 ⟨v2,rfl,⟨o2,rfl⟩,k2⟩
  have HO:Hid (CX w.heap.size w2 (.slice (some ⟨g,0,none⟩) (cI x.toList V).length cap) (cI x.toList V)):=by
   obtain ⟨h1,h | ⟨g',cap',cur,hv,h0,r⟩⟩:=o2
   ·cases h.1
   ·exact ⟨h1, .inr ⟨g',cap',cur,hv,by have:w.heap.size+1<=g':=(by simpa using h0);omega,r⟩⟩
  have HB2:Hid (RowKit.Below w.heap.size w w2):=⟨k2.os.trans HB1.out.os,k2.tape.trans HB1.out.tape,k2.output.trans HB1.out.output,cE HB1.out.size k2.size,λq hq=>(k2.block q (bY hq HB1.out.size) (by omega)).trans (HB1.out.block q hq)⟩
  clear o2 k2 HD
  go_wp2_with fail
  go_ret
  exact ⟨_,rfl,HO.out,HB2.out⟩
theorem CX.sl {base:Nat} {w:World} {v:Value} {V:List TV} (h:CX base w v V):∃ a c,v = .slice a V.length c:=by
 obtain ⟨hl,h | ⟨g',cap,cur,hv,_⟩⟩:=h
 ·exact ⟨none,0,by rw [h.1,h.2]⟩
 ·exact ⟨_,_,hv⟩
theorem mZ {w:World} {base base' size:Nat} {e:TypeId} {v:Value} {n:Nat} {xs:List Value} (h:w.ownsRow base e size v n xs) (hb:base'<=base):w.ownsRow base' e size v n xs:=by
 obtain ⟨h1,h | ⟨g,cap,cur,hv,h0,r⟩⟩:=h
 ·exact ⟨h1, .inl h⟩
 ·exact ⟨h1, .inr ⟨g,cap,cur,hv,by omega,r⟩⟩
theorem below_grown {w w1 w5:World} {n size k:Nat} {e:TypeId} {v:Value} {xs:List Value} (b:RowKit.Below n w w1) (g:w1.grownBy w5 v.ownBlock) (o:w1.ownsRow n e size v k xs) (hn:n<=w.heap.size):RowKit.Below n w w5:=
 ⟨g.os.trans b.os,g.tape.trans b.tape,g.output.trans b.output,cE b.size g.size,λq hq=>(g.block q (by have:=b.size;omega) (λee=>by have:=(aB o q ee.symm).1;omega)).trans (b.block q hq)⟩
theorem B9 (x:Sp.Bs) (V:List TV):(cI x V).length<=V.length:=List.length_filter_le _ _
theorem xQ {V:List TV} {v:Value} {t:TV} {w:World} (h:SJ w v V) (hbig:V.length<=900) :
  Calls Tryz.prog 86 #[v,sE t] w λe w'=>∃ v',e = .returned v'/\CX w.heap.size w' v' (cI t.name.toList V ++ [t])/\RowKit.Below w.heap.size w w':=by
 obtain ⟨i0,ji,fR,jz1,fS⟩:=info_parts Fq
 have HX:=hid (λ(W:World) (g:Gr w W)=>B7 (x:=t.name) (show SJ W v V by
  rcases h with h | ⟨b,off,c,e,hl⟩
  ·exact .inl h
  ·exact .inr ⟨b,off,c,e,hl.gr g⟩) (by omega))
 have hvs:∃ a n c,v = .slice a n c:=by
  rcases h with ⟨_,h⟩ | ⟨b,off,c,e,hl⟩
  ·exact ⟨_,_,_,h⟩
  ·exact ⟨_,_,_,e⟩
 obtain ⟨va,vn,vc,rfl⟩:=hvs
 clear h
 have Yx:=hid (B9 t.name.toList V)
 have HE:Hid (fP (cI t.name.toList V ++ [t])=fP (cI t.name.toList V) ++ [.string t.name,t.cv,t.rv]/\(cI t.name.toList V ++ [t]).length=(cI t.name.toList V).length+1):=⟨by rw [BX];rfl,by simp⟩
 unfold CX at HX ⊢
 rw [HE.out.1,HE.out.2]
 generalize cI t.name.toList V=U at *
 obtain ⟨tn,ca,cl,cc,ra,rl,rc⟩:=t
 simp only [TV.cv,TV.rv] at HX ⊢
 have SK:U.length<=900:=by have:=Yx.out;omega
 have GA:=hid (((Gr.refl w).alloc (.cells #[.string tn, .slice ca cl cc, .slice ra rl rc] 187)).drew)
 have GB:=hid ((((Gr.refl w).alloc (.cells #[.string tn, .slice ca cl cc, .slice ra rl rc] 187)).alloc (.cells #[.string tn, .slice ca cl cc, .slice ra rl rc] 187)).drew)
 have Wb:=hid (HX.out _ GA.out)
 have Wc:=hid (HX.out _ GB.out)
 clear HX
 generalize hA:(w.alloc (.cells #[.string tn, .slice ca cl cc, .slice ra rl rc] 187)).drew=WA at GA Wb
 generalize hB:((w.alloc (.cells #[.string tn, .slice ca cl cc, .slice ra rl rc] 187)).alloc (.cells #[.string tn, .slice ca cl cc, .slice ra rl rc] 187)).drew=WB at GB Wc
 subst hA hB
 have hone:∀ u∈([.string tn, .slice ca cl cc, .slice ra rl rc]:List Value),u.oneCell'=true:=by intro u hu;simp at hu;rcases hu with rfl | rfl | rfl <;> rfl
 have QS:=hid hone
 clear hone
 have nA:Hid (∀ j,((w.alloc (.cells #[.string tn, .slice ca cl cc, .slice ra rl rc] 187)).drew).cell? ⟨w.heap.size,j,none⟩=(#[.string tn, .slice ca cl cc, .slice ra rl rc]:Array Value)[j]?):=λj=>oZ w _ _ j
 have nB:Hid (∀ j,(((w.alloc (.cells #[.string tn, .slice ca cl cc, .slice ra rl rc] 187)).alloc (.cells #[.string tn, .slice ca cl cc, .slice ra rl rc] 187)).drew).cell? ⟨w.heap.size,j,none⟩=(#[.string tn, .slice ca cl cc, .slice ra rl rc]:Array Value)[j]?):=λj=>(((Gr.refl (w.alloc (.cells #[.string tn, .slice ca cl cc, .slice ra rl rc] 187))).alloc _).cell (p:=⟨w.heap.size,j,none⟩) (by simp)).trans (oZ w _ _ j)
 have nC:Hid (∀ j,(((w.alloc (.cells #[.string tn, .slice ca cl cc, .slice ra rl rc] 187)).alloc (.cells #[.string tn, .slice ca cl cc, .slice ra rl rc] 187)).drew).cell? ⟨w.heap.size+1,j,none⟩=(#[.string tn, .slice ca cl cc, .slice ra rl rc]:Array Value)[j]?):=λj=>by
  have h:=oZ (w.alloc (.cells #[.string tn, .slice ca cl cc, .slice ra rl rc] 187)) #[.string tn, .slice ca cl cc, .slice ra rl rc] 187 j
  rw [World.size_alloc] at h
  exact h
 go_enter Tryz.func86,Tryz.ntmps86
 go_wp2_with fail
 go_region_law (first
  | (have _hx:=qC;refine step_append_lies _ (by rfl) _ _ _ (by rfl) w.heap.size 187 i0 (.agg #[.string ⟨#[]⟩, .slice none 0 0, .slice none 0 0]) 3 64 Tryz.underlying113 ji fR jz1 fS rfl (by omega) v1 U.length (fP U) (by rfl) qC ⟨w1.heap.size,0,none⟩ 1 1 [.string tn, .slice ca cl cc, .slice ra rl rc] (by rfl) (by rfl) (World.news_of_block (cs:=#[.string tn, .slice ca cl cc, .slice ra rl rc]) (t:=187) (fr:=(0,0)) (heap_alloc_new w1 _)) QS.out (by omega) (by unfold maxLen;omega) (by omega) (by simp;omega) (w1.heap.size+1) (by simp) ?_;intro g' gE w5 hown hgrow hat hlt';have hBl:=below_grown (xA.alloc rM _) hgrow qC (aF _))
  | (have _hx:=Uk;refine step_append_lies _ (by rfl) _ _ _ (by rfl) w.heap.size 187 i0 (.agg #[.string ⟨#[]⟩, .slice none 0 0, .slice none 0 0]) 3 64 Tryz.underlying113 ji fR jz1 fS rfl (by omega) v1 U.length (fP U) (by rfl) Uk ⟨w.heap.size+1,0,none⟩ 1 1 [.string tn, .slice ca cl cc, .slice ra rl rc] (by rfl) (by rfl) Yy QS.out (by omega) (by unfold maxLen;omega) (by omega) (by omega) w1.heap.size rfl ?_;intro g' gE w5 hown hgrow hat hlt';have hBl:=below_grown Yz hgrow Uk (aF _))
  | (go_simp;go_at_call 88;refine Wc.out.mono ?_;rintro e1 w1 ⟨v1,rfl,o1,b1⟩;have x0:=(b1.cell (p:=⟨w.heap.size,0,none⟩) (by simp <;> omega)).trans (nB.out 0);have x1:=(b1.cell (p:=⟨w.heap.size,1,none⟩) (by simp <;> omega)).trans (nB.out 1);have x2:=(b1.cell (p:=⟨w.heap.size,2,none⟩) (by simp <;> omega)).trans (nB.out 2);simp only [List.getElem?_toArray,List.getElem?_cons_zero,List.getElem?_cons_succ] at x0 x1 x2;have Uk:w1.ownsRow w.heap.size 187 3 v1 U.length (fP U):=mZ o1 (by simp <;> omega);have Yy:(∀ j u,([.string tn, .slice ca cl cc, .slice ra rl rc]:List Value)[j]?=some u->w1.cell? ((⟨w.heap.size+1,0,none⟩:Addr).add j)=some u):=(λj u hj=>by rw [Addr.add_lit,Nat.zero_add];refine (b1.cell (p:=⟨w.heap.size+1,j,none⟩) (by simp)).trans ((nC.out j).trans ?_);simpa using hj);have Ds:w.heap.size<=w1.heap.size:=cE GB.out.size b1.size;have Yz:RowKit.Below w.heap.size w w1:=GB.out.below.trans (b1.mono GB.out.size))
  | (go_simp;go_at_call 88;refine Wb.out.mono ?_;rintro e1 w1 ⟨v1,rfl,o1,b1⟩;have x0:=(b1.cell (p:=⟨w.heap.size,0,none⟩) (by simp)).trans (nA.out 0);have x1:=(b1.cell (p:=⟨w.heap.size,1,none⟩) (by simp)).trans (nA.out 1);have x2:=(b1.cell (p:=⟨w.heap.size,2,none⟩) (by simp)).trans (nA.out 2);simp only [List.getElem?_toArray,List.getElem?_cons_zero,List.getElem?_cons_succ] at x0 x1 x2;have qC:(w1.alloc (.cells #[.string tn, .slice ca cl cc, .slice ra rl rc] 187)).ownsRow w.heap.size 187 3 v1 U.length (fP U):=mZ (aH o1 ((Gr.refl w1).alloc _).below) (by simp);have rM:w.heap.size<=w1.heap.size:=cE GA.out.size b1.size;have xA:RowKit.Below w.heap.size w w1:=GA.out.below.trans (b1.mono GA.out.size)))
 all_goals
  have eM:=hid hown
  have iY:=hid hBl
  clear hown hgrow hat hBl x0 x1 x2 b1 o1 _hx
  go_wp2_with fail
  go_ret
  exact ⟨_,rfl,eM.out,iY.out⟩
structure eL (C:Nat->Prop) (w:World) (t:Sp.Tb) (tv:TV):Prop where
 name:tv.name=bz t.name
 cols:(t.cols = []/\tv.ca=none/\tv.cl=0/\tv.cc=0)\/∃ b off,tv.ca=some ⟨b,off,none⟩/\tv.cl=t.cols.length/\C b/\oD w b off (t.cols.map λx=>(bz x.1,x.2))
 iC:t.cols.length<=50
 rl:tv.rl=t.rows.length
 rows:(t.rows = []/\tv.ra=none/\tv.rc=0)\/∃ rb ro,tv.ra=some ⟨rb,ro,none⟩/\C rb/\rb<w.heap.size/\∀ i,(h:i<t.rows.length)->∃ v,w.cell? ⟨rb,ro+i,none⟩=some v/\gU C w v t.rows[i]
 Dg:t.rows.length<=1000
theorem oD.blk {w w' : World} {b off:Nat} {cs:List (ByteArray×Int)} (h:oD w b off cs) (hs:w.heap.size<=w'.heap.size) (e:w'.heap[b]?=w.heap[b]?):oD w' b off cs:=by
 have hc:∀ o,w'.cell? ⟨b,o,none⟩=w.cell? ⟨b,o,none⟩:=λo=>fB (w:=w) (a:=⟨b,o,none⟩) e
 exact ⟨bY h.lb hs,λj hj=>(hc _).trans (h.n j hj),λj hj=>(hc _).trans (h.t j hj)⟩
theorem Lt.blk {w w' : World} {b off:Nat} {ts:List TV} (h:Lt w b off ts) (hs:w.heap.size<=w'.heap.size) (e:w'.heap[b]?=w.heap[b]?):Lt w' b off ts:=by
 have hc:∀ o,w'.cell? ⟨b,o,none⟩=w.cell? ⟨b,o,none⟩:=λo=>fB (w:=w) (a:=⟨b,o,none⟩) e
 exact ⟨bY h.lb hs,λj hj=>(hc _).trans (h.n j hj),λj hj=>(hc _).trans (h.c j hj),λj hj=>(hc _).trans (h.r j hj)⟩
theorem Hv.blk' {w w' : World} {b off:Nat} {vs:List Sv.Val} (h:Hv w b off vs) (hs:w.heap.size<=w'.heap.size) (e:w'.heap[b]?=w.heap[b]?):Hv w' b off vs:=by
 have hc:∀ o,w'.cell? ⟨b,o,none⟩=w.cell? ⟨b,o,none⟩:=λo=>fB (w:=w) (a:=⟨b,o,none⟩) e
 exact ⟨bY h.lb hs,λj hj=>(hc _).trans (h.k j hj),λj hj=>(hc _).trans (h.n j hj),λj hj=>(hc _).trans (h.s j hj)⟩
theorem gU.blk' {C:Nat->Prop} {w w' : World} {v:Value} {r:List Sv.Val} (h:gU C w v r) (hs:w.heap.size<=w'.heap.size) (e:∀ b,C b->b<w.heap.size->w'.heap[b]?=w.heap[b]?):gU C w' v r:=by
 rcases h with h | ⟨b,o,c,ev,hb,hv⟩
 ·exact .inl h
 ·exact .inr ⟨b,o,c,ev,hb,hv.blk' hs (e b hb hv.lb)⟩
theorem eL.blk {C:Nat->Prop} {w w' : World} {t:Sp.Tb} {tv:TV} (h:eL C w t tv) (hs:w.heap.size<=w'.heap.size) (e:∀ b,C b->b<w.heap.size->w'.heap[b]?=w.heap[b]?):eL C w' t tv:=by
 refine ⟨h.name,?_,h.iC,h.rl,?_,h.Dg⟩
 ·rcases h.cols with h | ⟨b,off,h1,h2,h3,h4⟩
  ·exact .inl h
  ·exact .inr ⟨b,off,h1,h2,h3,h4.blk hs (e b h3 h4.lb)⟩
 ·rcases h.rows with h | ⟨b,off,h1,h2,h3,h4⟩
  ·exact .inl h
  ·refine .inr ⟨b,off,h1,h2,by omega,λi hi=>?_⟩
   obtain ⟨v,p1,p2⟩:=h4 i hi
   exact ⟨v,(fB (w:=w) (a:=⟨b,off+i,none⟩) (e b h2 h3)).trans p1,p2.blk' hs e⟩
theorem eL.YA {C:Nat->Prop} {w:World} {t:Sp.Tb} {tv:TV} (h:eL C w t tv):nZ w.heap.size w t tv:=by
 refine ⟨h.name,?_,h.iC,h.rl,?_,h.Dg⟩
 ·rcases h.cols with h | ⟨b,off,h1,h2,h3,h4⟩
  ·exact .inl h
  ·exact .inr ⟨b,off,h1,h2,h4.lb,h4⟩
 ·rcases h.rows with h | ⟨b,off,h1,h2,h3,h4⟩
  ·exact .inl h
  ·refine .inr ⟨b,off,h1,h3,λi hi=>?_⟩
   obtain ⟨v,p1,p2⟩:=h4 i hi
   exact ⟨v,p1,p2.rw⟩
theorem eL.lrs {C:Nat->Prop} {w:World} {t:Sp.Tb} {tv:TV} (h:eL C w t tv):xN C w tv.rv t.rows:=by
 rcases h.rows with ⟨e,e1,e2⟩ | ⟨rb,ro,e1,hC,hlt,hr⟩
 ·have:=h.rl
  rw [e] at this ⊢
  exact ⟨[], .inl ⟨by simp [TV.rv,e1,e2,this],rfl⟩,trivial⟩
 ·obtain ⟨xs,h1,h2⟩:=jA (λi v=>∃ h:i<t.rows.length,w.cell? ⟨rb,ro+i,none⟩=some v/\gU C w v t.rows[i]) t.rows.length (λi hi=>by obtain ⟨v,hv1,hv2⟩:=hr i hi;exact ⟨v,hi,hv1,hv2⟩)
  refine ⟨xs, .inr ⟨rb,ro,tv.rc,?_,hlt,λj hj=>(h2 j hj).2.1⟩,Al.of h1 λi hi hi'=>(h2 i hi).2.2⟩
  simp [TV.rv,e1,h.rl,h1]
def cD (C:Nat->Prop) (w:World) (T:List Sp.Tb) (v:Value):Prop:=
 T.length<=900/\((T = []/\v = .slice none 0 0)\/∃ b off c V,v = .slice (some ⟨b,off,none⟩) T.length c/\C b/\Lt w b off V/\Al (eL C w) T V)
theorem xR {k:Nat} {w:World} : ∀ {T:List Sp.Tb} {V:List TV},Al (nZ k w) T V->CR k w T V
 | [], [],_=>trivial
 | _::_,_::_,h=>⟨h.1,xR h.2⟩
 | [],_::_,h=>h.elim
 | _::_, [],h=>h.elim
theorem cD.Ol {C:Nat->Prop} {w:World} {T:List Sp.Tb} {v:Value} (h:cD C w T v):sF w.heap.size w T v:=by
 refine ⟨by have:=h.1;omega,aF _,?_⟩
 rcases h.2 with h | ⟨b,off,c,V,e,_,hl,ha⟩
 ·exact .inl h
 ·exact .inr ⟨b,off,c,V,e,hl.lb,hl,xR (ha.mono λt V h=>h.YA)⟩
theorem cD.blk {C:Nat->Prop} {w w' : World} {T:List Sp.Tb} {v:Value} (h:cD C w T v) (hs:w.heap.size<=w'.heap.size) (e:∀ b,C b->b<w.heap.size->w'.heap[b]?=w.heap[b]?):cD C w' T v:=by
 refine ⟨h.1,?_⟩
 rcases h.2 with h | ⟨b,off,c,V,ev,hC,hl,ha⟩
 ·exact .inl h
 ·exact .inr ⟨b,off,c,V,ev,hC,hl.blk hs (e b hC hl.lb),ha.mono λt V h=>h.blk hs e⟩
theorem cD.bel {C:Nat->Prop} {w w' : World} {T:List Sp.Tb} {v:Value} (h:cD C w T v) (g:RowKit.Below w.heap.size w w'):cD C w' T v:=h.blk g.size λb _ hb=>g.block b hb
theorem eL.bel {C:Nat->Prop} {w w' : World} {t:Sp.Tb} {tv:TV} (h:eL C w t tv) (g:RowKit.Below w.heap.size w w'):eL C w' t tv:=h.blk g.size λb _ hb=>g.block b hb
theorem cD.Wd {C:Nat->Prop} {w:World} {T:List Sp.Tb} {v:Value} (h:cD C w T v):∃ V,SJ w v V/\Al (eL C w) T V/\V.length<=900:=by
 rcases h.2 with ⟨rfl,rfl⟩ | ⟨b,off,c,V,e,hC,hl,ha⟩
 ·exact ⟨[], .inl ⟨rfl,rfl⟩,trivial,by simp⟩
 ·have hlen:=ha.len
  exact ⟨V, .inr ⟨b,off,c,by rw [e,hlen],hl⟩,ha,by have:=h.1;omega⟩
theorem Ca {C:Nat->Prop} {w:World} (x:Sp.Bs):∀ {T:List Sp.Tb} {V:List TV},Al (eL C w) T V->Al (eL C w) (without x T) (cI x V)
 | [], [],_=>trivial
 | t::T,v::V,h=>by
  have ih:=Ca x h.2
  have e:v.name.toList=t.name:=by rw [h.1.name,dJ]
  unfold without cI at ih ⊢
  rw [List.filter_cons,List.filter_cons,e]
  cases hb:(t.name == x)
  ·exact ⟨h.1,ih⟩
  ·exact ih
 | [],_::_,h=>h.elim
 | _::_, [],h=>h.elim
theorem cD.owned {C:Nat->Prop} {base:Nat} {w:World} {T:List Sp.Tb} {V:List TV} {v:Value} (o:CX base w v V) (hC:∀ b,base<=b->C b) (ha:Al (eL C w) T V) (hl:V.length<=900):cD C w T v:=by
 have hlen:=ha.len
 have ho:=o
 have hb:=aB o
 refine ⟨by omega,?_⟩
 obtain ⟨h1,h | ⟨g,cap,cur,hv,h0,r⟩⟩:=o
 ·have hV:V = []:=Av h.2
  subst hV
  exact .inl ⟨Av (by simpa using hlen),h.1⟩
 ·subst hv
  exact .inr ⟨g,0,cap,V,by rw [hlen],hC g h0,Lt.owned ho,ha⟩
theorem eL.to {C D:Nat->Prop} {w:World} {t:Sp.Tb} {tv:TV} (h:eL C w t tv) (hd:∀ b,C b->b<w.heap.size->D b):eL D w t tv:=by
 refine ⟨h.name,?_,h.iC,h.rl,?_,h.Dg⟩
 ·rcases h.cols with h | ⟨b,off,h1,h2,h3,h4⟩
  ·exact .inl h
  ·exact .inr ⟨b,off,h1,h2,hd b h3 h4.lb,h4⟩
 ·rcases h.rows with h | ⟨b,off,h1,h2,h3,h4⟩
  ·exact .inl h
  ·refine .inr ⟨b,off,h1,hd b h2 h3,h3,λi hi=>?_⟩
   obtain ⟨v,p1,p2⟩:=h4 i hi
   exact ⟨v,p1,p2.to hd⟩
theorem eL.having {D:Nat->Prop} {base:Nat} {w:World} {t:Sp.Tb} {V:TV} {v:Value} {xs:List Value} {rows:List (List Sv.Val)} (h:eL D w t V) (o:w.ownsRow base 41 1 v xs.length xs) (hnil:xs = []->v = .slice none 0 0) (ha:Al (gU D w) xs rows) (hD:∀ b,base<=b->D b) (hb:rows.length<=1000) :
  ∃ va vc,v = .slice va xs.length vc/\eL D w { t with rows:=rows } ⟨V.name,V.ca,V.cl,V.cc,va,xs.length,vc⟩:=by
 have hbk:=aB o
 have hlen:=ha.len
 by_cases hx:xs = []
 ·refine ⟨none,0,by rw [hnil hx,hx];rfl,h.name,h.cols,h.iC,hlen, .inl ⟨Av (by rw [<- hlen,hx];rfl),rfl,rfl⟩,hb⟩
 ·have ho:=o
  obtain ⟨_,h' | ⟨g,cap,cur,hv,h0,hcc,r⟩⟩:=o
  ·exact absurd (Av h'.2) hx
  ·subst hv
   refine ⟨_,_,rfl,h.name,h.cols,h.iC,hlen, .inr ⟨g,0,rfl,hD g h0,(hbk g rfl).2,λi hi=>?_⟩,hb⟩
   have hix:i<xs.length:=by rw [hlen];exact hi
   exact ⟨xs[i],by rw [Nat.zero_add];exact bO ho i _ (rI hix),ha.get i hix hi⟩
theorem Ei {C:Nat->Prop} {b off n c:Nat} {t:Sp.Tb} {V:TV} {vs:List Value} {q7:List (List (List Sv.Val))} {w:World} (hC:∀ j,w.heap.size<=j->C j) (hV:eL C w t V) (hz:n=vs.length) (hz2:q7.length=vs.length) (hb:b<w.heap.size) (hc:∀ j,(h:j<vs.length)->w.cell? ⟨b,off+j,none⟩=some vs[j])
  (hs:∀ j,(h:j<vs.length)->xN C w vs[j] (q7[j]'(by omega))) (hbig:q7.flatten.length<=1000) (hn:n<=1000) :
  Calls Tryz.prog 148 #[sE V, .slice (some ⟨b,off,none⟩) n c] w λe w'=>∃ v,e = .returned v/\(∃ V',v=sE V'/\eL C w' { t with rows:=q7.flatten } V')/\RowKit.Below w.heap.size w w':=by
 have HV:Hid (eL (λb=>(C b/\b<w.heap.size)\/w.heap.size+2<=b) w t V):=hV.to λb h1 h2 => .inl ⟨h1,h2⟩
 have GA:=hid (((Gr.refl w).alloc (.cells #[.string V.name,V.cv,V.rv] 187)).alloc (.cells #[.string ⟨#[]⟩, .slice none 0 0, .slice none 0 0] 187))
 have QU:=hid (rW (C:=λb=>(C b/\b<w.heap.size)\/w.heap.size+2<=b) (c:=c) (w:=((w.alloc (.cells #[.string V.name,V.cv,V.rv] 187)).alloc (.cells #[.string ⟨#[]⟩, .slice none 0 0, .slice none 0 0] 187))) hz hz2 (bY hb GA.out.size) (λj h=>(GA.out.cell (p:=⟨b,off+j,none⟩) hb).trans (hc j h)) (λj h=>((hs j h).to λb h1 h2 => .inl ⟨h1,h2⟩).bel GA.out.below) (by omega) hn)
 have Po:=hid hbig
 have P1:=hid hC
 clear hz hz2 hb hc hs hV hbig hC
 obtain ⟨vn,ca,cl,cc,ra,rl,rc⟩:=V
 have HF3:Hid (B3 ((w.alloc (.cells #[.string vn, .slice ca cl cc, .slice ra rl rc] 187)).alloc (.cells #[.string ⟨#[]⟩, .slice none 0 0, .slice none 0 0] 187)) w.heap.size (.string vn) (.slice ca cl cc) (.slice ra rl rc)):=(B3.new w (.string vn) (.slice ca cl cc) (.slice ra rl rc) 187).gr ((Gr.refl _).alloc _)
 have Pp:Hid (B3 ((w.alloc (.cells #[.string vn, .slice ca cl cc, .slice ra rl rc] 187)).alloc (.cells #[.string ⟨#[]⟩, .slice none 0 0, .slice none 0 0] 187)) (w.heap.size+1) (.string ⟨#[]⟩) (.slice none 0 0) (.slice none 0 0)):=by
  have h:=B3.new (w.alloc (.cells #[.string vn, .slice ca cl cc, .slice ra rl rc] 187)) (.string ⟨#[]⟩) (.slice none 0 0) (.slice none 0 0) 187
  rw [World.size_alloc] at h
  exact h
 go_enter Tryz.func148,Tryz.ntmps148
 go_wp2_with fail
 refine QU.out.mono ?_
 rintro e w1 ⟨v,rfl,⟨xs,o,hnil,ha⟩,hb1⟩
 have HB1:Hid (RowKit.Below w.heap.size w w1):=GA.out.below.trans (hb1.mono GA.out.size)
 obtain ⟨va,vc,rfl,hT⟩:=(HV.out.bel HB1.out).having o hnil ha (λb hb => .inr (by simpa using hb)) Po.out
 have HT:=hid hT
 have LL:=hid (HF3.out.same hb1.size (hb1.block _ (by simp;omega)))
 have LQ:=hid (Pp.out.same hb1.size (hb1.block _ (by simp)))
 obtain ⟨q0,q1,q2,q3,q4,q5,q6⟩:=LL.out
 obtain ⟨r0,r1,r2,r3,r4,r5,r6⟩:=LQ.out
 clear hT o hnil ha hb1 QU
 go_wp2_with fail
 refine cL (v := .agg #[.string vn, .slice ca cl cc, .slice va xs.length vc]) (by simp [results,Tryz.results148,go_sem,r1,r2,r3]) rfl ⟨_,rfl,⟨⟨vn,ca,cl,cc,va,xs.length,vc⟩,rfl,?_⟩,?_⟩
 ·refine (HT.out.blk (by simp [World.setCell]) λb hb _=>?_).to λb hb _=>?_
  ·have h1:b≠w.heap.size:=by rcases hb with hb | hb <;> omega
   have h2:b≠w.heap.size+1:=by rcases hb with hb | hb <;> omega
   exact (dQ _ _ _ _ h2).trans ((dQ _ _ _ _ h2).trans ((dQ _ _ _ _ h2).trans (dQ _ _ _ _ h1)))
  ·rcases hb with hb | hb
   ·exact hb.1
   ·exact P1.out b (by omega)
 ·exact (((HB1.out.setCell (p:=⟨w.heap.size,2,none⟩) (aF _) _).setCell (p:=⟨w.heap.size+1,0,none⟩) (Nat.le_succ _) _).setCell (p:=⟨w.heap.size+1,1,none⟩) (Nat.le_succ _) _).setCell (p:=⟨w.heap.size+1,2,none⟩) (Nat.le_succ _) _
end Go.Proofs.YtgnncnhkgmhngaaGreatDoor
