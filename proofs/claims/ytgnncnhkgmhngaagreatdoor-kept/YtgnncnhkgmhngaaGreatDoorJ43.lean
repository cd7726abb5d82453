import Derived.Test.YtgnncnhkgmhngaaGreatDoorJ42
set_option maxHeartbeats 2000000
set_option maxRecDepth 100000
namespace Go.Proofs.YtgnncnhkgmhngaaGreatDoor
open Go.RowKit Go.Sort
theorem Hv.blk {w w' : World} {b off:Nat} {vs:List Sv.Val} (h:Hv w b off vs) (hs:w.heap.size<=w'.heap.size) (e:w'.heap[b]?=w.heap[b]?):Hv w' b off vs:=by
 have hc:∀ o,w'.cell? ⟨b,o,none⟩=w.cell? ⟨b,o,none⟩:=fun o=>World.cell?_of_block (w:=w) (a:=⟨b,o,none⟩) e
 exact ⟨Nat.lt_of_lt_of_le h.lb hs,fun j hj=>(hc _).trans (h.k j hj),fun j hj=>(hc _).trans (h.n j hj),fun j hj=>(hc _).trans (h.s j hj)⟩
theorem RwC.blk {C:Nat->Prop} {w w' : World} {v:Value} {r:List Sv.Val} (h:RwC C w v r) (hs:w.heap.size<=w'.heap.size) (e:∀ b,C b->b<w.heap.size->w'.heap[b]?=w.heap[b]?):RwC C w' v r:=by
 rcases h with h | ⟨b,o,c,ev,hb,hv⟩
 ·exact .inl h
 ·exact .inr ⟨b,o,c,ev,hb,hv.blk hs (e b hb hv.lb)⟩
structure RowsI (D:Nat->Prop) (w:World) (N Br:Nat) (rows:List (List Sv.Val)) (A:World):Prop where
 box:∃ v xs,Boxed A Br 32 v/\A.ownsRow N 41 1 v xs.length xs/\Al (RwC (fun b=>D b/\some b≠v.ownBlock) A) xs rows
 size:N<=A.heap.size+1
 bel:RowKit.Below w.heap.size w A
theorem RowsI.same {D:Nat->Prop} {w A B:World} {N Br H:Nat} {rows:List (List Sv.Val)} (h:RowsI D w N Br rows A) (hN:N=H+3) (hBr:Br<H) (hw:w.heap.size<=H) (hD:∀ b,D b->b<H\/N<=b) (hs:A.heap.size<=B.heap.size) (ho:B.os=A.os) (ht:B.tape=A.tape) (hp:B.output=A.output) (hb:∀ j,j<A.heap.size->j≠H->j≠H+1->j≠H+2->B.heap[j]?=A.heap[j]?):RowsI D w N Br rows B:=by
 obtain ⟨⟨v,xs,b1,o1,a1⟩,sz,bl⟩:=h
 refine ⟨⟨v,xs,?_,?_,?_⟩,by omega,⟨ho.trans bl.os,ht.trans bl.tape,hp.trans bl.output,Nat.le_trans bl.size hs,fun j hj=>(hb j (by have:=bl.size;omega) (by omega) (by omega) (by omega)).trans (bl.block j hj)⟩⟩
 ·exact (hb Br b1.lt (by omega) (by omega) (by omega)).trans b1
 ·have hblk:=ownsV_block o1
  obtain ⟨hl,h | ⟨g,cap,cur,hv,h0,hc,r⟩⟩:=o1
  ·exact ⟨hl, .inl h⟩
  ·subst hv
   exact ⟨hl, .inr ⟨g,cap,cur,rfl,h0,(hb g (hblk g rfl).2 (by omega) (by omega) (by omega)).trans hc,r⟩⟩
 ·exact a1.mono fun u r hr=>hr.blk hs fun b hd hlt=>hb b hlt (by have:=hD b hd.1;omega) (by have:=hD b hd.1;omega) (by have:=hD b hd.1;omega)
theorem RowsI.start {D:Nat->Prop} {w A:World} {N Br:Nat} (hb:Boxed A Br 32 (.slice none 0 0)) (hs:N<=A.heap.size+1) (bl:RowKit.Below w.heap.size w A):RowsI D w N Br [] A:=
 ⟨⟨_, [],hb,World.ownsRow_nil _ _ _ _,trivial⟩,hs,bl⟩
theorem RowsI.push {D:Nat->Prop} {w A A1 W4:World} {N Br g' c' : Nat} {v u:Value} {xs:List Value} {rows:List (List Sv.Val)} {r:List Sv.Val} (hBw:w.heap.size<=Br) (hBN:Br<N) (hDB:∀ b,D b->b≠Br) (hsz:N<=A.heap.size) (bl:RowKit.Below w.heap.size w A)
  (b0:Boxed A Br 32 v) (o0:A.ownsRow N 41 1 v xs.length xs) (a0:Al (RwC (fun b=>D b/\some b≠v.ownBlock) A) xs rows)
  (b1:RowKit.Below A.heap.size A A1) (hr:RwC (fun b=>D b/\some b≠v.ownBlock) A1 u r)
  (hown:W4.ownsRow N 41 1 (.slice (some ⟨g',0,none⟩) (xs.length+1) c') (xs.length+1) (xs ++ [u])) (hgrow:(A1.alloc (.cells #[u] 41)).grownBy W4 v.ownBlock) (hat:v.ownBlock=some g'\/g'=A1.heap.size+1) :
  Boxed W4 Br 32 v/\RowsI D w N Br (rows ++ [r]) (W4.setCell ⟨Br,0,none⟩ (.slice (some ⟨g',0,none⟩) (xs.length+1) c'))/\Fr (fun k=>k<N/\k≠Br) A (W4.setCell ⟨Br,0,none⟩ (.slice (some ⟨g',0,none⟩) (xs.length+1) c')):=by
 have hblk:=ownsV_block o0
 have hb2:RowKit.Below A.heap.size A (A1.alloc (.cells #[u] 41)):=b1.alloc b1.size _
 have hz4:A1.heap.size+1<=W4.heap.size:=by have:=hgrow.size;simpa using this
 have hzA:A.heap.size<=A1.heap.size:=b1.size
 have hnotBr:some Br≠v.ownBlock:=fun e=>by have:=(hblk Br e.symm).1;omega
 have hW4:∀ j,j<A1.heap.size->some j≠v.ownBlock->W4.heap[j]?=A1.heap[j]?:=fun j hj hne=>(hgrow.block j (by simp;omega) hne).trans (Below.heap_alloc A1 _ j hj)
 have hbox:Boxed W4 Br 32 v:=(hW4 Br (by have:=b0.lt;omega) hnotBr).trans ((b1.block Br b0.lt).trans b0)
 have hst:∀ j,j≠Br->(W4.setCell ⟨Br,0,none⟩ (.slice (some ⟨g',0,none⟩) (xs.length+1) c')).heap[j]?=W4.heap[j]?:=fun j hj=>Below.heap_setCell _ _ _ _ hj
 have hs8:(W4.setCell ⟨Br,0,none⟩ (.slice (some ⟨g',0,none⟩) (xs.length+1) c')).heap.size=W4.heap.size:=by simp [World.setCell]
 have hg' : g'≠Br:=by
  rcases hat with h | h
  ·have:=(hblk g' h).1;omega
  ·have:=b0.lt;omega
 -- a row of before
 have hrow:∀ (y:Value) (q:List Sv.Val),RwC (fun b=>D b/\some b≠v.ownBlock) A1 y q->RwC (fun b=>D b/\some b≠(Value.slice (some ⟨g',0,none⟩) (xs.length+1) c').ownBlock) (W4.setCell ⟨Br,0,none⟩ (.slice (some ⟨g',0,none⟩) (xs.length+1) c')) y q:=by
  intro y q hy
  rcases hy with h | ⟨b,o,c,ev,⟨hd,hne⟩,hv⟩
  ·exact .inl h
  ·have hlb:=hv.lb
   refine .inr ⟨b,o,c,ev,⟨hd,?_⟩,hv.blk (by omega) ((hst b (hDB b hd)).trans (hW4 b hlb hne))⟩
   intro e
   have e' : b=g':=by simpa [Value.ownBlock] using e
   rcases hat with h | h
   ·exact hne (by rw [e',h])
   ·omega
 refine ⟨hbox,⟨⟨_,xs ++ [u],hbox.set _,?_,?_⟩,by omega,?_⟩,?_⟩
 ·rw [List.length_append]
  obtain ⟨hl,h | ⟨g,cap,cur,hv,h0,hc,rr⟩⟩:=hown
  ·cases h.1
  ·have e' : g=g':=by injection hv with e1 _ _;injection e1 with e1;injection e1 with e1;exact e1.symm
   subst e'
   exact ⟨hl, .inr ⟨g,cap,cur,hv,h0,(hst g hg').trans hc,rr⟩⟩
 ·refine Al.snoc ?_ (hrow _ _ hr)
  exact a0.mono fun y q hy=>hrow y q (hy.bel b1)
 ·refine ⟨hgrow.os.trans (b1.os.trans bl.os),hgrow.tape.trans (b1.tape.trans bl.tape),hgrow.output.trans (b1.output.trans bl.output),by have:=bl.size;omega,fun j hj=>?_⟩
  have hjA:j<A.heap.size:=by have:=bl.size;omega
  exact (hst j (by omega)).trans ((hW4 j (by omega) (fun e=>by have:=(hblk j e.symm).1;omega)).trans ((b1.block j hjA).trans (bl.block j hj)))
 ·refine ⟨hgrow.os.trans b1.os,hgrow.tape.trans b1.tape,hgrow.output.trans b1.output,by omega,fun j hj hc=>?_⟩
  exact (hst j hc.2).trans ((hW4 j (by omega) (fun e=>by have:=(hblk j e.symm).1;omega)).trans (b1.block j hj))
structure Tb1C (C:Nat->Prop) (w:World) (t:Sp.Tb) (tv:TV):Prop where
 name:tv.name=bz t.name
 cols:(t.cols = []/\tv.ca=none/\tv.cl=0/\tv.cc=0)\/∃ b off,tv.ca=some ⟨b,off,none⟩/\tv.cl=t.cols.length/\C b/\Cols w b off (t.cols.map fun x=>(bz x.1,x.2))
 colN:t.cols.length<=50
 rl:tv.rl=t.rows.length
 rows:(t.rows = []/\tv.ra=none/\tv.rc=0)\/∃ rb ro,tv.ra=some ⟨rb,ro,none⟩/\C rb/\rb<w.heap.size/\∀ i,(h:i<t.rows.length)->∃ v,w.cell? ⟨rb,ro+i,none⟩=some v/\RwC C w v t.rows[i]
 rowN:t.rows.length<=1000
theorem Cols.blk {w w' : World} {b off:Nat} {cs:List (ByteArray×Int)} (h:Cols w b off cs) (hs:w.heap.size<=w'.heap.size) (e:w'.heap[b]?=w.heap[b]?):Cols w' b off cs:=by
 have hc:∀ o,w'.cell? ⟨b,o,none⟩=w.cell? ⟨b,o,none⟩:=fun o=>World.cell?_of_block (w:=w) (a:=⟨b,o,none⟩) e
 exact ⟨Nat.lt_of_lt_of_le h.lb hs,fun j hj=>(hc _).trans (h.n j hj),fun j hj=>(hc _).trans (h.t j hj)⟩
theorem Lt.blk {w w' : World} {b off:Nat} {ts:List TV} (h:Lt w b off ts) (hs:w.heap.size<=w'.heap.size) (e:w'.heap[b]?=w.heap[b]?):Lt w' b off ts:=by
 have hc:∀ o,w'.cell? ⟨b,o,none⟩=w.cell? ⟨b,o,none⟩:=fun o=>World.cell?_of_block (w:=w) (a:=⟨b,o,none⟩) e
 exact ⟨Nat.lt_of_lt_of_le h.lb hs,fun j hj=>(hc _).trans (h.n j hj),fun j hj=>(hc _).trans (h.c j hj),fun j hj=>(hc _).trans (h.r j hj)⟩
theorem Hv.blk' {w w' : World} {b off:Nat} {vs:List Sv.Val} (h:Hv w b off vs) (hs:w.heap.size<=w'.heap.size) (e:w'.heap[b]?=w.heap[b]?):Hv w' b off vs:=by
 have hc:∀ o,w'.cell? ⟨b,o,none⟩=w.cell? ⟨b,o,none⟩:=fun o=>World.cell?_of_block (w:=w) (a:=⟨b,o,none⟩) e
 exact ⟨Nat.lt_of_lt_of_le h.lb hs,fun j hj=>(hc _).trans (h.k j hj),fun j hj=>(hc _).trans (h.n j hj),fun j hj=>(hc _).trans (h.s j hj)⟩
theorem RwC.blk' {C:Nat->Prop} {w w' : World} {v:Value} {r:List Sv.Val} (h:RwC C w v r) (hs:w.heap.size<=w'.heap.size) (e:∀ b,C b->b<w.heap.size->w'.heap[b]?=w.heap[b]?):RwC C w' v r:=by
 rcases h with h | ⟨b,o,c,ev,hb,hv⟩
 ·exact .inl h
 ·exact .inr ⟨b,o,c,ev,hb,hv.blk' hs (e b hb hv.lb)⟩
theorem Tb1C.blk {C:Nat->Prop} {w w' : World} {t:Sp.Tb} {tv:TV} (h:Tb1C C w t tv) (hs:w.heap.size<=w'.heap.size) (e:∀ b,C b->b<w.heap.size->w'.heap[b]?=w.heap[b]?):Tb1C C w' t tv:=by
 refine ⟨h.name,?_,h.colN,h.rl,?_,h.rowN⟩
 ·rcases h.cols with h | ⟨b,off,h1,h2,h3,h4⟩
  ·exact .inl h
  ·exact .inr ⟨b,off,h1,h2,h3,h4.blk hs (e b h3 h4.lb)⟩
 ·rcases h.rows with h | ⟨b,off,h1,h2,h3,h4⟩
  ·exact .inl h
  ·refine .inr ⟨b,off,h1,h2,by omega,fun i hi=>?_⟩
   obtain ⟨v,p1,p2⟩:=h4 i hi
   exact ⟨v,(World.cell?_of_block (w:=w) (a:=⟨b,off+i,none⟩) (e b h2 h3)).trans p1,p2.blk' hs e⟩
theorem Tb1C.tb1 {C:Nat->Prop} {w:World} {t:Sp.Tb} {tv:TV} (h:Tb1C C w t tv):Tb1 w.heap.size w t tv:=by
 refine ⟨h.name,?_,h.colN,h.rl,?_,h.rowN⟩
 ·rcases h.cols with h | ⟨b,off,h1,h2,h3,h4⟩
  ·exact .inl h
  ·exact .inr ⟨b,off,h1,h2,h4.lb,h4⟩
 ·rcases h.rows with h | ⟨b,off,h1,h2,h3,h4⟩
  ·exact .inl h
  ·refine .inr ⟨b,off,h1,h3,fun i hi=>?_⟩
   obtain ⟨v,p1,p2⟩:=h4 i hi
   exact ⟨v,p1,p2.rw⟩
theorem Tb1C.lrs {C:Nat->Prop} {w:World} {t:Sp.Tb} {tv:TV} (h:Tb1C C w t tv):Lrs C w tv.rv t.rows:=by
 rcases h.rows with ⟨e,e1,e2⟩ | ⟨rb,ro,e1,hC,hlt,hr⟩
 ·have:=h.rl
  rw [e] at this ⊢
  exact ⟨[], .inl ⟨by simp [TV.rv,e1,e2,this],rfl⟩,trivial⟩
 ·obtain ⟨xs,h1,h2⟩:=choose_list (fun i v=>∃ h:i<t.rows.length,w.cell? ⟨rb,ro+i,none⟩=some v/\RwC C w v t.rows[i]) t.rows.length (fun i hi=>by obtain ⟨v,hv1,hv2⟩:=hr i hi;exact ⟨v,hi,hv1,hv2⟩)
  refine ⟨xs, .inr ⟨rb,ro,tv.rc,?_,hlt,fun j hj=>(h2 j hj).2.1⟩,Al.of h1 fun i hi hi'=>(h2 i hi).2.2⟩
  simp [TV.rv,e1,h.rl,h1]
def TbsC (C:Nat->Prop) (w:World) (T:List Sp.Tb) (v:Value):Prop:=
 T.length<=900/\((T = []/\v = .slice none 0 0)\/∃ b off c V,v = .slice (some ⟨b,off,none⟩) T.length c/\C b/\Lt w b off V/\Al (Tb1C C w) T V)
theorem tbl_of_al {k:Nat} {w:World} : ∀ {T:List Sp.Tb} {V:List TV},Al (Tb1 k w) T V->Tbl k w T V
 | [], [],_=>trivial
 | _::_,_::_,h=>⟨h.1,tbl_of_al h.2⟩
 | [],_::_,h=>h.elim
 | _::_, [],h=>h.elim
theorem TbsC.tbs {C:Nat->Prop} {w:World} {T:List Sp.Tb} {v:Value} (h:TbsC C w T v):Tbs w.heap.size w T v:=by
 refine ⟨by have:=h.1;omega,Nat.le_refl _,?_⟩
 rcases h.2 with h | ⟨b,off,c,V,e,_,hl,ha⟩
 ·exact .inl h
 ·exact .inr ⟨b,off,c,V,e,hl.lb,hl,tbl_of_al (ha.mono fun t V h=>h.tb1)⟩
theorem TbsC.blk {C:Nat->Prop} {w w' : World} {T:List Sp.Tb} {v:Value} (h:TbsC C w T v) (hs:w.heap.size<=w'.heap.size) (e:∀ b,C b->b<w.heap.size->w'.heap[b]?=w.heap[b]?):TbsC C w' T v:=by
 refine ⟨h.1,?_⟩
 rcases h.2 with h | ⟨b,off,c,V,ev,hC,hl,ha⟩
 ·exact .inl h
 ·exact .inr ⟨b,off,c,V,ev,hC,hl.blk hs (e b hC hl.lb),ha.mono fun t V h=>h.blk hs e⟩
theorem TbsC.bel {C:Nat->Prop} {w w' : World} {T:List Sp.Tb} {v:Value} (h:TbsC C w T v) (g:RowKit.Below w.heap.size w w'):TbsC C w' T v:=h.blk g.size fun b _ hb=>g.block b hb
theorem Tb1C.bel {C:Nat->Prop} {w w' : World} {t:Sp.Tb} {tv:TV} (h:Tb1C C w t tv) (g:RowKit.Below w.heap.size w w'):Tb1C C w' t tv:=h.blk g.size fun b _ hb=>g.block b hb
theorem TbsC.ltv {C:Nat->Prop} {w:World} {T:List Sp.Tb} {v:Value} (h:TbsC C w T v):∃ V,LtV w v V/\Al (Tb1C C w) T V/\V.length<=900:=by
 rcases h.2 with ⟨rfl,rfl⟩ | ⟨b,off,c,V,e,hC,hl,ha⟩
 ·exact ⟨[], .inl ⟨rfl,rfl⟩,trivial,by simp⟩
 ·have hlen:=ha.len
  exact ⟨V, .inr ⟨b,off,c,by rw [e,hlen],hl⟩,ha,by have:=h.1;omega⟩
theorem keptT_al {C:Nat->Prop} {w:World} (x:Sp.Bs):∀ {T:List Sp.Tb} {V:List TV},Al (Tb1C C w) T V->Al (Tb1C C w) (Sp.without x T) (keptT x V)
 | [], [],_=>trivial
 | t::T,v::V,h=>by
  have ih:=keptT_al x h.2
  have e:v.name.toList=t.name:=by rw [h.1.name,bz_list]
  unfold Sp.without keptT at ih ⊢
  rw [List.filter_cons,List.filter_cons,e]
  cases hb:(t.name == x)
  ·exact ⟨h.1,ih⟩
  ·exact ih
 | [],_::_,h=>h.elim
 | _::_, [],h=>h.elim
theorem TbsC.owned {C:Nat->Prop} {base:Nat} {w:World} {T:List Sp.Tb} {V:List TV} {v:Value} (o:OwT base w v V) (hC:∀ b,base<=b->C b) (ha:Al (Tb1C C w) T V) (hl:V.length<=900):TbsC C w T v:=by
 have hlen:=ha.len
 have ho:=o
 have hb:=ownsV_block o
 refine ⟨by omega,?_⟩
 obtain ⟨h1,h | ⟨g,cap,cur,hv,h0,r⟩⟩:=o
 ·have hV:V = []:=List.eq_nil_of_length_eq_zero h.2
  subst hV
  exact .inl ⟨List.eq_nil_of_length_eq_zero (by simpa using hlen),h.1⟩
 ·subst hv
  exact .inr ⟨g,0,cap,V,by rw [hlen],hC g h0,Lt.owned ho,ha⟩
theorem Tb1C.to {C D:Nat->Prop} {w:World} {t:Sp.Tb} {tv:TV} (h:Tb1C C w t tv) (hd:∀ b,C b->b<w.heap.size->D b):Tb1C D w t tv:=by
 refine ⟨h.name,?_,h.colN,h.rl,?_,h.rowN⟩
 ·rcases h.cols with h | ⟨b,off,h1,h2,h3,h4⟩
  ·exact .inl h
  ·exact .inr ⟨b,off,h1,h2,hd b h3 h4.lb,h4⟩
 ·rcases h.rows with h | ⟨b,off,h1,h2,h3,h4⟩
  ·exact .inl h
  ·refine .inr ⟨b,off,h1,hd b h2 h3,h3,fun i hi=>?_⟩
   obtain ⟨v,p1,p2⟩:=h4 i hi
   exact ⟨v,p1,p2.to hd⟩
theorem Tb1C.having {D:Nat->Prop} {base:Nat} {w:World} {t:Sp.Tb} {V:TV} {v:Value} {xs:List Value} {rows:List (List Sv.Val)} (h:Tb1C D w t V) (o:w.ownsRow base 41 1 v xs.length xs) (hnil:xs = []->v = .slice none 0 0) (ha:Al (RwC D w) xs rows) (hD:∀ b,base<=b->D b) (hb:rows.length<=1000) :
  ∃ va vc,v = .slice va xs.length vc/\Tb1C D w { t with rows:=rows } ⟨V.name,V.ca,V.cl,V.cc,va,xs.length,vc⟩:=by
 have hbk:=ownsV_block o
 have hlen:=ha.len
 by_cases hx:xs = []
 ·refine ⟨none,0,by rw [hnil hx,hx];rfl,h.name,h.cols,h.colN,hlen, .inl ⟨List.eq_nil_of_length_eq_zero (by rw [<- hlen,hx];rfl),rfl,rfl⟩,hb⟩
 ·have ho:=o
  obtain ⟨_,h' | ⟨g,cap,cur,hv,h0,hcc,r⟩⟩:=o
  ·exact absurd (List.eq_nil_of_length_eq_zero h'.2) hx
  ·subst hv
   refine ⟨_,_,rfl,h.name,h.cols,h.colN,hlen, .inr ⟨g,0,rfl,hD g h0,(hbk g rfl).2,fun i hi=>?_⟩,hb⟩
   have hix:i<xs.length:=by rw [hlen];exact hi
   exact ⟨xs[i],by rw [Nat.zero_add];exact owns_cells ho i _ (List.getElem?_eq_getElem hix),ha.get i hix hi⟩
theorem having_any {C:Nat->Prop} {b off n c:Nat} {t:Sp.Tb} {V:TV} {vs:List Value} {rss:List (List (List Sv.Val))} {w:World} (hC:∀ j,w.heap.size<=j->C j) (hV:Tb1C C w t V) (hz:n=vs.length) (hz2:rss.length=vs.length) (hb:b<w.heap.size) (hc:∀ j,(h:j<vs.length)->w.cell? ⟨b,off+j,none⟩=some vs[j])
  (hs:∀ j,(h:j<vs.length)->Lrs C w vs[j] (rss[j]'(by omega))) (hbig:rss.flatten.length<=1000) (hn:n<=1000) :
  Calls Tryz.prog 148 #[enT V, .slice (some ⟨b,off,none⟩) n c] w fun e w'=>∃ v,e = .returned v/\(∃ V',v=enT V'/\Tb1C C w' { t with rows:=rss.flatten } V')/\RowKit.Below w.heap.size w w':=by
 have HV:Hid (Tb1C (fun b=>(C b/\b<w.heap.size)\/w.heap.size+2<=b) w t V):=hV.to fun b h1 h2 => .inl ⟨h1,h2⟩
 have GA:=hid (((Gr.refl w).alloc (.cells #[.string V.name,V.cv,V.rv] 187)).alloc (.cells #[.string ⟨#[]⟩, .slice none 0 0, .slice none 0 0] 187))
 have HCc:=hid (concat_rows (C:=fun b=>(C b/\b<w.heap.size)\/w.heap.size+2<=b) (c:=c) (w:=((w.alloc (.cells #[.string V.name,V.cv,V.rv] 187)).alloc (.cells #[.string ⟨#[]⟩, .slice none 0 0, .slice none 0 0] 187))) hz hz2 (Nat.lt_of_lt_of_le hb GA.out.size) (fun j h=>(GA.out.cell (p:=⟨b,off+j,none⟩) hb).trans (hc j h)) (fun j h=>((hs j h).to fun b h1 h2 => .inl ⟨h1,h2⟩).bel GA.out.below) (by omega) hn)
 have HBg:=hid hbig
 have HCC:=hid hC
 clear hz hz2 hb hc hs hV hbig hC
 obtain ⟨vn,ca,cl,cc,ra,rl,rc⟩:=V
 have HF3:Hid (B3 ((w.alloc (.cells #[.string vn, .slice ca cl cc, .slice ra rl rc] 187)).alloc (.cells #[.string ⟨#[]⟩, .slice none 0 0, .slice none 0 0] 187)) w.heap.size (.string vn) (.slice ca cl cc) (.slice ra rl rc)):=(B3.new w (.string vn) (.slice ca cl cc) (.slice ra rl rc) 187).gr ((Gr.refl _).alloc _)
 have HG3:Hid (B3 ((w.alloc (.cells #[.string vn, .slice ca cl cc, .slice ra rl rc] 187)).alloc (.cells #[.string ⟨#[]⟩, .slice none 0 0, .slice none 0 0] 187)) (w.heap.size+1) (.string ⟨#[]⟩) (.slice none 0 0) (.slice none 0 0)):=by
  have h:=B3.new (w.alloc (.cells #[.string vn, .slice ca cl cc, .slice ra rl rc] 187)) (.string ⟨#[]⟩) (.slice none 0 0) (.slice none 0 0) 187
  rw [World.size_alloc] at h
  exact h
 go_enter Tryz.func148,Tryz.ntmps148
 go_wp2_with fail
 refine HCc.out.mono ?_
 rintro e w1 ⟨v,rfl,⟨xs,o,hnil,ha⟩,hb1⟩
 have HB1:Hid (RowKit.Below w.heap.size w w1):=GA.out.below.trans (hb1.mono GA.out.size)
 obtain ⟨va,vc,rfl,hT⟩:=(HV.out.bel HB1.out).having o hnil ha (fun b hb => .inr (by simpa using hb)) HBg.out
 have HT:=hid hT
 have HF4:=hid (HF3.out.same hb1.size (hb1.block _ (by simp;omega)))
 have HG4:=hid (HG3.out.same hb1.size (hb1.block _ (by simp)))
 obtain ⟨q0,q1,q2,q3,q4,q5,q6⟩:=HF4.out
 obtain ⟨r0,r1,r2,r3,r4,r5,r6⟩:=HG4.out
 clear hT o hnil ha hb1 HCc
 go_wp2_with fail
 refine bodyPost_ret (v := .agg #[.string vn, .slice ca cl cc, .slice va xs.length vc]) (by simp [results,Tryz.results148,go_sem,r1,r2,r3]) rfl ⟨_,rfl,⟨⟨vn,ca,cl,cc,va,xs.length,vc⟩,rfl,?_⟩,?_⟩
 ·refine (HT.out.blk (by simp [World.setCell]) fun b hb _=>?_).to fun b hb _=>?_
  ·have h1:b≠w.heap.size:=by rcases hb with hb | hb <;> omega
   have h2:b≠w.heap.size+1:=by rcases hb with hb | hb <;> omega
   exact (Below.heap_setCell _ _ _ _ h2).trans ((Below.heap_setCell _ _ _ _ h2).trans ((Below.heap_setCell _ _ _ _ h2).trans (Below.heap_setCell _ _ _ _ h1)))
  ·rcases hb with hb | hb
   ·exact hb.1
   ·exact HCC.out b (by omega)
 ·exact (((HB1.out.setCell (p:=⟨w.heap.size,2,none⟩) (Nat.le_refl _) _).setCell (p:=⟨w.heap.size+1,0,none⟩) (Nat.le_succ _) _).setCell (p:=⟨w.heap.size+1,1,none⟩) (Nat.le_succ _) _).setCell (p:=⟨w.heap.size+1,2,none⟩) (Nat.le_succ _) _
end Go.Proofs.YtgnncnhkgmhngaaGreatDoor
