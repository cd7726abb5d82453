import Derived.Test.YtgnncnhkgmhngaaGreatDoorJ41
set_option maxHeartbeats 2000000
set_option maxRecDepth 100000
namespace Go.Proofs.YtgnncnhkgmhngaaGreatDoor
open Sp
open Tryz
open Go.RowKit Go.Sort
def Wg:Option Value->Int
 | some (.int _ n)=>n
 | _=>0
def Yh:Option Value->ByteArray
 | some (.string s)=>s
 | _=>⟨#[]⟩
def dZ (_:Nat) (w:World):Value->List Sv.Val
 | .slice (some ⟨b,o,_⟩) l _=>(List.range l).map λj=>⟨Wg (w.cell? ⟨b,o+j*3,none⟩),Wg (w.cell? ⟨b,o+j*3+1,none⟩),Yh (w.cell? ⟨b,o+j*3+2,none⟩)⟩
 | _ => []
theorem tQ {k:Nat} {w:World} {v:Value} {r:List Sv.Val} (h:Rw k w v r):dZ k w v=r:=by
 rcases h with ⟨rfl,rfl⟩ | ⟨b,off,c,rfl,_,hv⟩
 ·rfl
 ·refine List.ext_getElem (by simp [dZ]) λi h1 h2=>?_
  simp only [dZ,List.getElem_map,List.getElem_range,hv.k i h2,hv.n i h2,hv.s i h2,Wg,Yh]
theorem qT {k:Nat} {w:World} : ∀ {xs:List Value} {rows:List (List Sv.Val)},Al (Rw k w) xs rows->xs.map (dZ k w)=rows
 | [], [],_=>rfl
 | _::_,_::_,h=>by rw [List.map_cons,tQ h.1,qT h.2]
 | [],_::_,h=>h.elim
 | _::_, [],h=>h.elim
theorem yX {α β:Type} (f:α->β):∀ l:List (List α),aL (l.map (·.map f))=(aL l).map (·.map f)
 | []=>rfl
 | t::l=>by
  simp only [List.map_cons,aL,yX f l,List.flatMap_map,List.map_flatMap,List.map_map]
  congr 1
theorem rV {α:Type} : ∀ {l:List (List α)} {x:List α},x∈aL l->x.length=l.length/\∀ i,(h:i<x.length)->(h' : i<l.length)->x[i]∈l[i]
 | [],x,h=>by simp [aL] at h;subst h;exact ⟨rfl,λi h=>by simp at h⟩
 | t::l,x,h=>by
  simp only [aL,List.mem_flatMap,List.mem_map] at h
  obtain ⟨r,hr,y,hy,rfl⟩:=h
  obtain ⟨h1,h2⟩:=rV hy
  refine ⟨by simp [h1],λi hi hi'=>?_⟩
  match i,hi,hi' with
  | 0,_,_=>exact hr
  | i+1,hi,hi'=>exact h2 i (by simpa using hi) (by simpa using hi')
theorem Qq {k:Nat} {w:World} {t:Sp.Tb} {V:TV} (h:lW k w t V) (hk:k<=w.heap.size):∃ xs,Sl (·<k) w V.rv xs/\Al (Rw k w) xs t.rows:=by
 rcases h.rows with ⟨e,e1,e2⟩ | ⟨rb,ro,e1,hr⟩
 ·refine ⟨[], .inl ⟨?_,rfl⟩,by rw [e];trivial⟩
  have:=h.rl
  rw [e] at this
  simp [TV.rv,e1,e2,this]
 ·obtain ⟨xs,h1,h2⟩:=jL (λi v=>∃ h:i<t.rows.length,w.cell? ⟨rb,ro+i,none⟩=some v/\Rw k w v t.rows[i]) t.rows.length (λi hi=>by obtain ⟨v,hv1,hv2⟩:=hr.at_ i hi;exact ⟨v,hi,hv1,hv2⟩)
  refine ⟨xs, .inr ⟨rb,ro,V.rc,?_,by have:=hr.lb;omega,hr.lb,λj hj=>(h2 j hj).2.1⟩,Al.of h1 λi hi hi'=>(h2 i hi).2.2⟩
  simp [TV.rv,e1,h.rl,h1]
theorem Gz {k:Nat} {w:World} {T:List Sp.Tb} (hk:k<=w.heap.size):∀ {vs:List Value} {src:List (Nm×Nm)},Al (λv (x:Nm×Nm)=>∃ t V,v=V.rv/\aG x.1.1 T=some t/\lW k w t V) vs src->
  ∃ tabs:List (List Value),Al (λv xs=>Sl (·<k) w v xs) vs tabs/\Al (Al (Rw k w)) tabs (rowsOf T src)
 | [], [],_=>⟨[],trivial,trivial⟩
 | v::vs,x::src,h=>by
  obtain ⟨⟨t,V,rfl,e,h1⟩,h2⟩:=h
  obtain ⟨xs,h3,h4⟩:=Qq h1 hk
  obtain ⟨tabs,h5,h6⟩:=Gz hk h2
  refine ⟨xs::tabs,⟨h3,h5⟩,?_,h6⟩
  show Al (Rw k w) xs ((aG x.1.1 T).getD jB).rows
  rw [e]
  exact h4
 | [],_::_,h=>h.elim
 | _::_, [],h=>h.elim
theorem yY {k:Nat} {w:World} : ∀ {tabs:List (List Value)} {qS:List (List (List Sv.Val))},Al (Al (Rw k w)) tabs qS->tabs.map (·.map (dZ k w))=qS
 | [], [],_=>rfl
 | _::_,_::_,h=>by rw [List.map_cons,qT h.1,yY h.2]
 | [],_::_,h=>h.elim
 | _::_, [],h=>h.elim
theorem K8.tkn {k Tb:Nat} {w W:World} {tabs:List (List Value)} {qS:List (List (List Sv.Val))} {x:List Value} (h:K8 Tb tabs x W) (ha:Al (Al (Rw k w)) tabs qS) (hb:RowKit.Below w.heap.size w W) (hk:k<=w.heap.size):CJ W (x.map (dZ k w)) (.slice (some ⟨Tb,0,none⟩) tabs.length tabs.length):=by
 obtain ⟨hT,hl,hm⟩:=h
 obtain ⟨_,hmem⟩:=rV hm
 refine ⟨some ⟨Tb,0,none⟩,tabs.length,by rw [List.length_map,hl],λ_=>⟨Tb,0,rfl,hT.lt,λi hi=>?_⟩⟩
 have hix:i<x.length:=by simpa using hi
 have hit:i<tabs.length:=by omega
 refine ⟨x[i],by rw [Nat.zero_add];exact hT.at_ i hix,?_⟩
 rw [List.getElem_map]
 have har:=ha.get i hit (by rw [<- ha.len];exact hit)
 obtain ⟨r,_,hr⟩:=har.E8 (hmem i hix hit)
 rw [tQ hr]
 have h5:Rw k W x[i] r:=hr.below (hb.mono hk)
 rcases h5 with h5 | ⟨b,o,c,e,hb',hv⟩
 ·exact .inl h5
 ·exact .inr ⟨b,o,c,e,by have:=hb.size;omega,hv⟩
attribute [local go_sem] Oper.semAt_some
theorem rW {n:Nat} {g:Operand} {ps:Array Tmp} {assign body:Code} {Q:Exit->Act->World->Prop} {a:Act} {W:World} {Bt tb tc:Nat} {tabs:List (List Value)}
  (h1:1<=n) (hg:a.eval g = .func (.func 191) #[] #[.pointer (some ⟨Bt,0,none⟩)]) (hps:ps.size=1)
  (C:Nat->Prop) (hC0:C W.heap.size) (V7:C (W.heap.size+1)) (hC2:C (W.heap.size+2))
  (hm:0<tabs.length) (hb:tabs.length<=1000) (hbb:∀ t∈tabs,t.length<=100000) (hrs:∀ t∈tabs,∀ r∈t,∃ a l c,r = .slice a l c) (hlen:(aL tabs).length<=1000)
  (hBt:Bt<W.heap.size) (hc:W.cell? ⟨Bt,0,none⟩=some (.slice (some ⟨tb,0,none⟩) tabs.length tc)) (ht:Tabs (λk=>C k/\k≠W.heap.size+2) W tb 0 tabs)
  (I:List (List Value)->World->Prop) (hI:∀ s A B,I s A->A.heap.size<=B.heap.size->B.os=A.os->B.tape=A.tape->B.output=A.output->(∀ j,j<A.heap.size->j≠W.heap.size->j≠W.heap.size+1->j≠W.heap.size+2->B.heap[j]?=A.heap[j]?)->I s B)
  (h0:∀ W1,W1.heap.size=W.heap.size+2->RowKit.Below W.heap.size W W1->I [] W1)
  (a₁:Act)
  (hassign:∀ (l:Nat) (A:World) (K:Act->World->Prop),K a₁ A->
   assign.wpIn (Fence.wide.inRound l) (n - 1 - 1) prog (Exit.then K (λ_ _ _=>False)) { tmps:=(ps.zip #[.slice (some ⟨W.heap.size+2,0,none⟩) tabs.length tabs.length]).foldl (λt (p,v)=>t.setIfInBounds p v) a.tmps,defers := [] } A)
  (hbody:∀ (l:Nat) (pre:List (List Value)) (x:List Value) (A:World),I pre A->K8 (W.heap.size+2) tabs x A->pre.length<1000->W.heap.size+2<A.heap.size->body.wpIn (Fence.wide.inRound l) (n - 1 - 1) prog (λe _ A'=>e = .normal/\Fr C A A'/\I (pre ++ [x]) A') a₁ A)
  (hdone:∀ (A:World),I (aL tabs) A->A.heap[W.heap.size]?=some (.deferred (some []))->Q .normal { a with defers:={ target := .collected W.heap.size,args:=#[] }::a.defers } A) :
  (Code.rangeFunc g ps assign body).wpIn Fence.wide n prog Q a W:=by
 refine Iw rfl h1 (gf:=191) (lb:=#[.pointer (some ⟨Bt,0,none⟩)]) hg trivial (enters_of func191 (by kernel_rfl) rfl)
  (λ_:List Value=>#[.slice (some ⟨W.heap.size+2,0,none⟩) tabs.length tabs.length]) (λ_=>by rw [hps];rfl)
  C hC0 V7 (λl=>l.length<=1000) (λx A=>K8 (W.heap.size+2) tabs x A) (λx A o h=>?hM)
  (λxs=>xs=aL tabs) (λA B=>W.heap.size+2<=A.heap.size/\Fr (·≠W.heap.size+2) A B) (λA B h=>⟨h.2.block _ (by omega) (by omega),h.2.block _ (by omega) (by omega)⟩)
  (λJ hJ hY W1 hs1 hb1 hj0=>?hseq)
  I (λs A B hi h=>hI s A B hi h.2.size h.2.os h.2.tape h.2.output λj hj _ _ h2=>h.2.block j hj h2) (λs A k o hk hi=>?S9) h0 (λ_=>a₁) (λl x A K hK=>hassign l A K hK) (λl pre x A hi hx hl=>?hbd) (λxs A e hi hd=>?hdn)
 case hM=>
  obtain ⟨hT,h2,h3⟩:=h
  have e:(A.putObj (W.heap.size+1) o).heap[W.heap.size+2]?=A.heap[W.heap.size+2]?:=World.putObj_heap_other (by omega)
  exact ⟨⟨by simpa using hT.lt,λi hi=>by obtain ⟨v,hv⟩:=hT.some_ i hi;exact ⟨v,(dV (w:=A) (a:=⟨W.heap.size+2,i,none⟩) e).trans hv⟩,λi=>(Bo (w:=A) (a:=⟨W.heap.size+2,i,none⟩) e).trans (hT.un i),λi hi=>(dV (w:=A) (a:=⟨W.heap.size+2,i,none⟩) e).trans (hT.at_ i hi)⟩,h2,h3⟩
 case hseq=>
  refine (AC W C hC2 (n - 1) Bt tb 0 tc tabs hm hb hbb hrs hBt hc ht (λl=>l.length<=1000) (λp q h=>by rw [List.length_append] at h;omega) hlen (λs A=>J s A/\W.heap.size+2<=A.heap.size) (λs A B h f=>⟨hJ s A B h.1 ⟨h.2,f⟩,cF h.2 f.size⟩) (λpre x A h hx hl=>?_) W1 hs1 hb1 ⟨hj0,by omega⟩).mono ?_
  ·obtain ⟨fn,tmps,assign',body',hy,hR⟩:=hY pre x A h.1 hx hl
   exact ⟨fn,tmps,assign',body',hy,hR.mono λe A' hr=>⟨hr.1,⟨hr.2.1,cF h.2 hr.2.2.size⟩,hr.2.2⟩⟩
  ·rintro e A ⟨hv,xs,rfl,hj⟩
   exact ⟨hv,_,rfl,hj.1⟩
 case S9=>
  refine hI s A _ hi (by simp) rfl rfl rfl λj hj h1 h2 _=>?_
  rcases hk with rfl | rfl
  ·exact World.putObj_heap_other h1
  ·exact World.putObj_heap_other h2
 case hbd=>
  refine wpIn_mono (hbody l pre x A hi hx (by simpa [Nat.lt_iff_add_one_le] using hl) hx.1.lt) ?_
  rintro e a' A' h
  exact h
 case hdn=>
  subst e
  exact hdone A hi hd
end Go.Proofs.YtgnncnhkgmhngaaGreatDoor
namespace Go.Proofs.YtgnncnhkgmhngaaGreatDoor
open Sp
open Tryz
open Go.RowKit Go.Sort
theorem Hv.blk {w w' : World} {b off:Nat} {vs:List Sv.Val} (h:Hv w b off vs) (hs:w.heap.size<=w'.heap.size) (e:w'.heap[b]?=w.heap[b]?):Hv w' b off vs:=by
 have hc:∀ o,w'.cell? ⟨b,o,none⟩=w.cell? ⟨b,o,none⟩:=λo=>dV (w:=w) (a:=⟨b,o,none⟩) e
 exact ⟨b6 h.lb hs,λj hj=>(hc _).trans (h.k j hj),λj hj=>(hc _).trans (h.n j hj),λj hj=>(hc _).trans (h.s j hj)⟩
theorem iV.blk {C:Nat->Prop} {w w' : World} {v:Value} {r:List Sv.Val} (h:iV C w v r) (hs:w.heap.size<=w'.heap.size) (e:∀ b,C b->b<w.heap.size->w'.heap[b]?=w.heap[b]?):iV C w' v r:=by
 rcases h with h | ⟨b,o,c,ev,hb,hv⟩
 ·exact .inl h
 ·exact .inr ⟨b,o,c,ev,hb,hv.blk hs (e b hb hv.lb)⟩
structure eV (D:Nat->Prop) (w:World) (N Br:Nat) (rows:List (List Sv.Val)) (A:World):Prop where
 box:∃ v xs,Boxed A Br 32 v/\A.ownsRow N 41 1 v xs.length xs/\Al (iV (λb=>D b/\some b≠v.ownBlock) A) xs rows
 size:N<=A.heap.size+1
 bel:RowKit.Below w.heap.size w A
theorem eV.same {D:Nat->Prop} {w A B:World} {N Br H:Nat} {rows:List (List Sv.Val)} (h:eV D w N Br rows A) (hN:N=H+3) (hBr:Br<H) (hw:w.heap.size<=H) (hD:∀ b,D b->b<H\/N<=b) (hs:A.heap.size<=B.heap.size) (ho:B.os=A.os) (ht:B.tape=A.tape) (hp:B.output=A.output) (hb:∀ j,j<A.heap.size->j≠H->j≠H+1->j≠H+2->B.heap[j]?=A.heap[j]?):eV D w N Br rows B:=by
 obtain ⟨⟨v,xs,b1,o1,a1⟩,sz,bl⟩:=h
 refine ⟨⟨v,xs,?_,?_,?_⟩,by omega,⟨ho.trans bl.os,ht.trans bl.tape,hp.trans bl.output,cF bl.size hs,λj hj=>(hb j (by have:=bl.size;omega) (by omega) (by omega) (by omega)).trans (bl.block j hj)⟩⟩
 ·exact (hb Br b1.lt (by omega) (by omega) (by omega)).trans b1
 ·have hblk:=aB o1
  obtain ⟨hl,h | ⟨g,cap,cur,hv,h0,hc,r⟩⟩:=o1
  ·exact ⟨hl, .inl h⟩
  ·subst hv
   exact ⟨hl, .inr ⟨g,cap,cur,rfl,h0,(hb g (hblk g rfl).2 (by omega) (by omega) (by omega)).trans hc,r⟩⟩
 ·exact a1.mono λu r hr=>hr.blk hs λb hd hlt=>hb b hlt (by have:=hD b hd.1;omega) (by have:=hD b hd.1;omega) (by have:=hD b hd.1;omega)
theorem eV.start {D:Nat->Prop} {w A:World} {N Br:Nat} (hb:Boxed A Br 32 (.slice none 0 0)) (hs:N<=A.heap.size+1) (bl:RowKit.Below w.heap.size w A):eV D w N Br [] A:=
 ⟨⟨_, [],hb,World.ownsRow_nil _ _ _ _,trivial⟩,hs,bl⟩
theorem eV.push {D:Nat->Prop} {w A A1 W4:World} {N Br g' c' : Nat} {v u:Value} {xs:List Value} {rows:List (List Sv.Val)} {r:List Sv.Val} (hBw:w.heap.size<=Br) (hBN:Br<N) (hDB:∀ b,D b->b≠Br) (hsz:N<=A.heap.size) (bl:RowKit.Below w.heap.size w A)
  (b0:Boxed A Br 32 v) (o0:A.ownsRow N 41 1 v xs.length xs) (a0:Al (iV (λb=>D b/\some b≠v.ownBlock) A) xs rows)
  (b1:RowKit.Below A.heap.size A A1) (hr:iV (λb=>D b/\some b≠v.ownBlock) A1 u r)
  (hown:W4.ownsRow N 41 1 (.slice (some ⟨g',0,none⟩) (xs.length+1) c') (xs.length+1) (xs ++ [u])) (hgrow:(A1.alloc (.cells #[u] 41)).grownBy W4 v.ownBlock) (hat:v.ownBlock=some g'\/g'=A1.heap.size+1) :
  Boxed W4 Br 32 v/\eV D w N Br (rows ++ [r]) (W4.setCell ⟨Br,0,none⟩ (.slice (some ⟨g',0,none⟩) (xs.length+1) c'))/\Fr (λk=>k<N/\k≠Br) A (W4.setCell ⟨Br,0,none⟩ (.slice (some ⟨g',0,none⟩) (xs.length+1) c')):=by
 have hblk:=aB o0
 have hb2:RowKit.Below A.heap.size A (A1.alloc (.cells #[u] 41)):=b1.alloc b1.size _
 have tH:A1.heap.size+1<=W4.heap.size:=by have:=hgrow.size;simpa using this
 have Nq:A.heap.size<=A1.heap.size:=b1.size
 have Qr:some Br≠v.ownBlock:=λe=>by have:=(hblk Br e.symm).1;omega
 have UW:∀ j,j<A1.heap.size->some j≠v.ownBlock->W4.heap[j]?=A1.heap[j]?:=λj hj hne=>(hgrow.block j (by simp;omega) hne).trans (lK A1 _ j hj)
 have hbox:Boxed W4 Br 32 v:=(UW Br (by have:=b0.lt;omega) Qr).trans ((b1.block Br b0.lt).trans b0)
 have hst:∀ j,j≠Br->(W4.setCell ⟨Br,0,none⟩ (.slice (some ⟨g',0,none⟩) (xs.length+1) c')).heap[j]?=W4.heap[j]?:=λj hj=>c6 _ _ _ _ hj
 have hs8:(W4.setCell ⟨Br,0,none⟩ (.slice (some ⟨g',0,none⟩) (xs.length+1) c')).heap.size=W4.heap.size:=by simp [World.setCell]
 have hg' : g'≠Br:=by
  rcases hat with h | h
  ·have:=(hblk g' h).1;omega
  ·have:=b0.lt;omega
 -- a row of before
 have hrow:∀ (y:Value) (q:List Sv.Val),iV (λb=>D b/\some b≠v.ownBlock) A1 y q->iV (λb=>D b/\some b≠(Value.slice (some ⟨g',0,none⟩) (xs.length+1) c').ownBlock) (W4.setCell ⟨Br,0,none⟩ (.slice (some ⟨g',0,none⟩) (xs.length+1) c')) y q:=by
  intro y q hy
  rcases hy with h | ⟨b,o,c,ev,⟨hd,hne⟩,hv⟩
  ·exact .inl h
  ·have hlb:=hv.lb
   refine .inr ⟨b,o,c,ev,⟨hd,?_⟩,hv.blk (by omega) ((hst b (hDB b hd)).trans (UW b hlb hne))⟩
   intro e
   have e' : b=g':=by simpa [Value.ownBlock] using e
   rcases hat with h | h
   ·exact hne (by rw [e',h])
   ·omega
 refine ⟨hbox,⟨⟨_,xs ++ [u],hbox.set _,?_,?_⟩,by omega,?_⟩,?_⟩
 ·rw [List.length_append]
  obtain ⟨hl,h | ⟨g,cap,cur,hv,h0,hc,rr⟩⟩:=hown
  ·cases h.1
  ·have e' : g=g':=by injection hv with e1 _ _;injection e1 with e1;injection e1 with e1;exact e1.symm
   subst e'
   exact ⟨hl, .inr ⟨g,cap,cur,hv,h0,(hst g hg').trans hc,rr⟩⟩
 ·refine Al.snoc ?_ (hrow _ _ hr)
  exact a0.mono λy q hy=>hrow y q (hy.bel b1)
 ·refine ⟨hgrow.os.trans (b1.os.trans bl.os),hgrow.tape.trans (b1.tape.trans bl.tape),hgrow.output.trans (b1.output.trans bl.output),by have:=bl.size;omega,λj hj=>?_⟩
  have Z2:j<A.heap.size:=by have:=bl.size;omega
  exact (hst j (by omega)).trans ((UW j (by omega) (λe=>by have:=(hblk j e.symm).1;omega)).trans ((b1.block j Z2).trans (bl.block j hj)))
 ·refine ⟨hgrow.os.trans b1.os,hgrow.tape.trans b1.tape,hgrow.output.trans b1.output,by omega,λj hj hc=>?_⟩
  exact (hst j hc.2).trans ((UW j (by omega) (λe=>by have:=(hblk j e.symm).1;omega)).trans (b1.block j hj))
structure eG (C:Nat->Prop) (w:World) (t:Sp.Tb) (tv:TV):Prop where
 name:tv.name=bz t.name
 cols:(t.cols = []/\tv.ca=none/\tv.cl=0/\tv.cc=0)\/∃ b off,tv.ca=some ⟨b,off,none⟩/\tv.cl=t.cols.length/\C b/\oI w b off (t.cols.map λx=>(bz x.1,x.2))
 iI:t.cols.length<=50
 rl:tv.rl=t.rows.length
 rows:(t.rows = []/\tv.ra=none/\tv.rc=0)\/∃ rb ro,tv.ra=some ⟨rb,ro,none⟩/\C rb/\rb<w.heap.size/\∀ i,(h:i<t.rows.length)->∃ v,w.cell? ⟨rb,ro+i,none⟩=some v/\iV C w v t.rows[i]
 rE:t.rows.length<=1000
theorem oI.blk {w w' : World} {b off:Nat} {cs:List (ByteArray×Int)} (h:oI w b off cs) (hs:w.heap.size<=w'.heap.size) (e:w'.heap[b]?=w.heap[b]?):oI w' b off cs:=by
 have hc:∀ o,w'.cell? ⟨b,o,none⟩=w.cell? ⟨b,o,none⟩:=λo=>dV (w:=w) (a:=⟨b,o,none⟩) e
 exact ⟨b6 h.lb hs,λj hj=>(hc _).trans (h.n j hj),λj hj=>(hc _).trans (h.t j hj)⟩
theorem Lt.blk {w w' : World} {b off:Nat} {ts:List TV} (h:Lt w b off ts) (hs:w.heap.size<=w'.heap.size) (e:w'.heap[b]?=w.heap[b]?):Lt w' b off ts:=by
 have hc:∀ o,w'.cell? ⟨b,o,none⟩=w.cell? ⟨b,o,none⟩:=λo=>dV (w:=w) (a:=⟨b,o,none⟩) e
 exact ⟨b6 h.lb hs,λj hj=>(hc _).trans (h.n j hj),λj hj=>(hc _).trans (h.c j hj),λj hj=>(hc _).trans (h.r j hj)⟩
theorem Hv.blk' {w w' : World} {b off:Nat} {vs:List Sv.Val} (h:Hv w b off vs) (hs:w.heap.size<=w'.heap.size) (e:w'.heap[b]?=w.heap[b]?):Hv w' b off vs:=by
 have hc:∀ o,w'.cell? ⟨b,o,none⟩=w.cell? ⟨b,o,none⟩:=λo=>dV (w:=w) (a:=⟨b,o,none⟩) e
 exact ⟨b6 h.lb hs,λj hj=>(hc _).trans (h.k j hj),λj hj=>(hc _).trans (h.n j hj),λj hj=>(hc _).trans (h.s j hj)⟩
theorem iV.blk' {C:Nat->Prop} {w w' : World} {v:Value} {r:List Sv.Val} (h:iV C w v r) (hs:w.heap.size<=w'.heap.size) (e:∀ b,C b->b<w.heap.size->w'.heap[b]?=w.heap[b]?):iV C w' v r:=by
 rcases h with h | ⟨b,o,c,ev,hb,hv⟩
 ·exact .inl h
 ·exact .inr ⟨b,o,c,ev,hb,hv.blk' hs (e b hb hv.lb)⟩
theorem eG.blk {C:Nat->Prop} {w w' : World} {t:Sp.Tb} {tv:TV} (h:eG C w t tv) (hs:w.heap.size<=w'.heap.size) (e:∀ b,C b->b<w.heap.size->w'.heap[b]?=w.heap[b]?):eG C w' t tv:=by
 refine ⟨h.name,?_,h.iI,h.rl,?_,h.rE⟩
 ·rcases h.cols with h | ⟨b,off,h1,h2,h3,h4⟩
  ·exact .inl h
  ·exact .inr ⟨b,off,h1,h2,h3,h4.blk hs (e b h3 h4.lb)⟩
 ·rcases h.rows with h | ⟨b,off,h1,h2,h3,h4⟩
  ·exact .inl h
  ·refine .inr ⟨b,off,h1,h2,by omega,λi hi=>?_⟩
   obtain ⟨v,p1,p2⟩:=h4 i hi
   exact ⟨v,(dV (w:=w) (a:=⟨b,off+i,none⟩) (e b h2 h3)).trans p1,p2.blk' hs e⟩
theorem eG.Yi {C:Nat->Prop} {w:World} {t:Sp.Tb} {tv:TV} (h:eG C w t tv):lW w.heap.size w t tv:=by
 refine ⟨h.name,?_,h.iI,h.rl,?_,h.rE⟩
 ·rcases h.cols with h | ⟨b,off,h1,h2,h3,h4⟩
  ·exact .inl h
  ·exact .inr ⟨b,off,h1,h2,h4.lb,h4⟩
 ·rcases h.rows with h | ⟨b,off,h1,h2,h3,h4⟩
  ·exact .inl h
  ·refine .inr ⟨b,off,h1,h3,λi hi=>?_⟩
   obtain ⟨v,p1,p2⟩:=h4 i hi
   exact ⟨v,p1,p2.rw⟩
theorem eG.lrs {C:Nat->Prop} {w:World} {t:Sp.Tb} {tv:TV} (h:eG C w t tv):xB C w tv.rv t.rows:=by
 rcases h.rows with ⟨e,e1,e2⟩ | ⟨rb,ro,e1,hC,hlt,hr⟩
 ·have:=h.rl
  rw [e] at this ⊢
  exact ⟨[], .inl ⟨by simp [TV.rv,e1,e2,this],rfl⟩,trivial⟩
 ·obtain ⟨xs,h1,h2⟩:=jL (λi v=>∃ h:i<t.rows.length,w.cell? ⟨rb,ro+i,none⟩=some v/\iV C w v t.rows[i]) t.rows.length (λi hi=>by obtain ⟨v,hv1,hv2⟩:=hr i hi;exact ⟨v,hi,hv1,hv2⟩)
  refine ⟨xs, .inr ⟨rb,ro,tv.rc,?_,hlt,λj hj=>(h2 j hj).2.1⟩,Al.of h1 λi hi hi'=>(h2 i hi).2.2⟩
  simp [TV.rv,e1,h.rl,h1]
def bV (C:Nat->Prop) (w:World) (T:List Sp.Tb) (v:Value):Prop:=
 T.length<=900/\((T = []/\v = .slice none 0 0)\/∃ b off c V,v = .slice (some ⟨b,off,none⟩) T.length c/\C b/\Lt w b off V/\Al (eG C w) T V)
theorem yZ {k:Nat} {w:World} : ∀ {T:List Sp.Tb} {V:List TV},Al (lW k w) T V->DA k w T V
 | [], [],_=>trivial
 | _::_,_::_,h=>⟨h.1,yZ h.2⟩
 | [],_::_,h=>h.elim
 | _::_, [],h=>h.elim
theorem bV.Tl {C:Nat->Prop} {w:World} {T:List Sp.Tb} {v:Value} (h:bV C w T v):sD w.heap.size w T v:=by
 refine ⟨by have:=h.1;omega,aF _,?_⟩
 rcases h.2 with h | ⟨b,off,c,V,e,_,hl,ha⟩
 ·exact .inl h
 ·exact .inr ⟨b,off,c,V,e,hl.lb,hl,yZ (ha.mono λt V h=>h.Yi)⟩
theorem bV.blk {C:Nat->Prop} {w w' : World} {T:List Sp.Tb} {v:Value} (h:bV C w T v) (hs:w.heap.size<=w'.heap.size) (e:∀ b,C b->b<w.heap.size->w'.heap[b]?=w.heap[b]?):bV C w' T v:=by
 refine ⟨h.1,?_⟩
 rcases h.2 with h | ⟨b,off,c,V,ev,hC,hl,ha⟩
 ·exact .inl h
 ·exact .inr ⟨b,off,c,V,ev,hC,hl.blk hs (e b hC hl.lb),ha.mono λt V h=>h.blk hs e⟩
theorem bV.bel {C:Nat->Prop} {w w' : World} {T:List Sp.Tb} {v:Value} (h:bV C w T v) (g:RowKit.Below w.heap.size w w'):bV C w' T v:=h.blk g.size λb _ hb=>g.block b hb
theorem eG.bel {C:Nat->Prop} {w w' : World} {t:Sp.Tb} {tv:TV} (h:eG C w t tv) (g:RowKit.Below w.heap.size w w'):eG C w' t tv:=h.blk g.size λb _ hb=>g.block b hb
theorem bV.Wh {C:Nat->Prop} {w:World} {T:List Sp.Tb} {v:Value} (h:bV C w T v):∃ V,UQ w v V/\Al (eG C w) T V/\V.length<=900:=by
 rcases h.2 with ⟨rfl,rfl⟩ | ⟨b,off,c,V,e,hC,hl,ha⟩
 ·exact ⟨[], .inl ⟨rfl,rfl⟩,trivial,by simp⟩
 ·have hlen:=ha.len
  exact ⟨V, .inr ⟨b,off,c,by rw [e,hlen],hl⟩,ha,by have:=h.1;omega⟩
theorem CV {C:Nat->Prop} {w:World} (x:Sp.Bs):∀ {T:List Sp.Tb} {V:List TV},Al (eG C w) T V->Al (eG C w) (without x T) (cQ x V)
 | [], [],_=>trivial
 | t::T,v::V,h=>by
  have ih:=CV x h.2
  have e:v.name.toList=t.name:=by rw [h.1.name,cY]
  unfold without cQ at ih ⊢
  rw [List.filter_cons,List.filter_cons,e]
  cases hb:(t.name == x)
  ·exact ⟨h.1,ih⟩
  ·exact ih
 | [],_::_,h=>h.elim
 | _::_, [],h=>h.elim
theorem bV.owned {C:Nat->Prop} {base:Nat} {w:World} {T:List Sp.Tb} {V:List TV} {v:Value} (o:DH base w v V) (hC:∀ b,base<=b->C b) (ha:Al (eG C w) T V) (hl:V.length<=900):bV C w T v:=by
 have hlen:=ha.len
 have ho:=o
 have hb:=aB o
 refine ⟨by omega,?_⟩
 obtain ⟨h1,h | ⟨g,cap,cur,hv,h0,r⟩⟩:=o
 ·have hV:V = []:=zE h.2
  subst hV
  exact .inl ⟨zE (by simpa using hlen),h.1⟩
 ·subst hv
  exact .inr ⟨g,0,cap,V,by rw [hlen],hC g h0,Lt.owned ho,ha⟩
theorem eG.to {C D:Nat->Prop} {w:World} {t:Sp.Tb} {tv:TV} (h:eG C w t tv) (hd:∀ b,C b->b<w.heap.size->D b):eG D w t tv:=by
 refine ⟨h.name,?_,h.iI,h.rl,?_,h.rE⟩
 ·rcases h.cols with h | ⟨b,off,h1,h2,h3,h4⟩
  ·exact .inl h
  ·exact .inr ⟨b,off,h1,h2,hd b h3 h4.lb,h4⟩
 ·rcases h.rows with h | ⟨b,off,h1,h2,h3,h4⟩
  ·exact .inl h
  ·refine .inr ⟨b,off,h1,hd b h2 h3,h3,λi hi=>?_⟩
   obtain ⟨v,p1,p2⟩:=h4 i hi
   exact ⟨v,p1,p2.to hd⟩
theorem eG.having {D:Nat->Prop} {base:Nat} {w:World} {t:Sp.Tb} {V:TV} {v:Value} {xs:List Value} {rows:List (List Sv.Val)} (h:eG D w t V) (o:w.ownsRow base 41 1 v xs.length xs) (hnil:xs = []->v = .slice none 0 0) (ha:Al (iV D w) xs rows) (hD:∀ b,base<=b->D b) (hb:rows.length<=1000) :
  ∃ va vc,v = .slice va xs.length vc/\eG D w { t with rows:=rows } ⟨V.name,V.ca,V.cl,V.cc,va,xs.length,vc⟩:=by
 have hbk:=aB o
 have hlen:=ha.len
 by_cases hx:xs = []
 ·refine ⟨none,0,by rw [hnil hx,hx];rfl,h.name,h.cols,h.iI,hlen, .inl ⟨zE (by rw [<- hlen,hx];rfl),rfl,rfl⟩,hb⟩
 ·have ho:=o
  obtain ⟨_,h' | ⟨g,cap,cur,hv,h0,hcc,r⟩⟩:=o
  ·exact absurd (zE h'.2) hx
  ·subst hv
   refine ⟨_,_,rfl,h.name,h.cols,h.iI,hlen, .inr ⟨g,0,rfl,hD g h0,(hbk g rfl).2,λi hi=>?_⟩,hb⟩
   have hix:i<xs.length:=by rw [hlen];exact hi
   exact ⟨xs[i],by rw [Nat.zero_add];exact cH ho i _ (tC hix),ha.get i hix hi⟩
theorem pK {C:Nat->Prop} {b off n c:Nat} {t:Sp.Tb} {V:TV} {vs:List Value} {qS:List (List (List Sv.Val))} {w:World} (hC:∀ j,w.heap.size<=j->C j) (hV:eG C w t V) (hz:n=vs.length) (hz2:qS.length=vs.length) (hb:b<w.heap.size) (hc:∀ j,(h:j<vs.length)->w.cell? ⟨b,off+j,none⟩=some vs[j])
  (hs:∀ j,(h:j<vs.length)->xB C w vs[j] (qS[j]'(by omega))) (hbig:qS.flatten.length<=1000) (hn:n<=1000) :
  Calls prog 148 #[oW V, .slice (some ⟨b,off,none⟩) n c] w λe w'=>∃ v,e = .returned v/\(∃ V',v=oW V'/\eG C w' { t with rows:=qS.flatten } V')/\RowKit.Below w.heap.size w w':=by
 have HV:Hid (eG (λb=>(C b/\b<w.heap.size)\/w.heap.size+2<=b) w t V):=hV.to λb h1 h2 => .inl ⟨h1,h2⟩
 have GA:=hid (((Gr.refl w).alloc (.cells #[.string V.name,V.cv,V.rv] 187)).alloc (.cells #[.string ⟨#[]⟩, .slice none 0 0, .slice none 0 0] 187))
 have Td:=hid (sO (C:=λb=>(C b/\b<w.heap.size)\/w.heap.size+2<=b) (c:=c) (w:=((w.alloc (.cells #[.string V.name,V.cv,V.rv] 187)).alloc (.cells #[.string ⟨#[]⟩, .slice none 0 0, .slice none 0 0] 187))) hz hz2 (b6 hb GA.out.size) (λj h=>(GA.out.cell (p:=⟨b,off+j,none⟩) hb).trans (hc j h)) (λj h=>((hs j h).to λb h1 h2 => .inl ⟨h1,h2⟩).bel GA.out.below) (by omega) hn)
 have DF:=hid hbig
 have SD:=hid hC
 clear hz hz2 hb hc hs hV hbig hC
 obtain ⟨vn,ca,cl,cc,ra,rl,rc⟩:=V
 have HF3:Hid (B3 ((w.alloc (.cells #[.string vn, .slice ca cl cc, .slice ra rl rc] 187)).alloc (.cells #[.string ⟨#[]⟩, .slice none 0 0, .slice none 0 0] 187)) w.heap.size (.string vn) (.slice ca cl cc) (.slice ra rl rc)):=(B3.new w (.string vn) (.slice ca cl cc) (.slice ra rl rc) 187).gr ((Gr.refl _).alloc _)
 have Rr:Hid (B3 ((w.alloc (.cells #[.string vn, .slice ca cl cc, .slice ra rl rc] 187)).alloc (.cells #[.string ⟨#[]⟩, .slice none 0 0, .slice none 0 0] 187)) (w.heap.size+1) (.string ⟨#[]⟩) (.slice none 0 0) (.slice none 0 0)):=by
  have h:=B3.new (w.alloc (.cells #[.string vn, .slice ca cl cc, .slice ra rl rc] 187)) (.string ⟨#[]⟩) (.slice none 0 0) (.slice none 0 0) 187
  rw [World.size_alloc] at h
  exact h
 go_enter func148,ntmps148
 go_wp2_with fail
 refine Td.out.mono ?_
 rintro e w1 ⟨v,rfl,⟨xs,o,hnil,ha⟩,hb1⟩
 have HB1:Hid (RowKit.Below w.heap.size w w1):=GA.out.below.trans (hb1.mono GA.out.size)
 obtain ⟨va,vc,rfl,hT⟩:=(HV.out.bel HB1.out).having o hnil ha (λb hb => .inr (by simpa using hb)) DF.out
 have HT:=hid hT
 have Be:=hid (HF3.out.same hb1.size (hb1.block _ (by simp;omega)))
 have Ik:=hid (Rr.out.same hb1.size (hb1.block _ (by simp)))
 obtain ⟨q0,q1,q2,q3,q4,q5,q6⟩:=Be.out
 obtain ⟨r0,r1,r2,r3,r4,r5,r6⟩:=Ik.out
 clear hT o hnil ha hb1 Td
 go_wp2_with fail
 refine cV (v := .agg #[.string vn, .slice ca cl cc, .slice va xs.length vc]) (by simp [results,results148,go_sem,r1,r2,r3]) rfl ⟨_,rfl,⟨⟨vn,ca,cl,cc,va,xs.length,vc⟩,rfl,?_⟩,?_⟩
 ·refine (HT.out.blk (by simp [World.setCell]) λb hb _=>?_).to λb hb _=>?_
  ·have h1:b≠w.heap.size:=by rcases hb with hb | hb <;> omega
   have h2:b≠w.heap.size+1:=by rcases hb with hb | hb <;> omega
   exact (c6 _ _ _ _ h2).trans ((c6 _ _ _ _ h2).trans ((c6 _ _ _ _ h2).trans (c6 _ _ _ _ h1)))
  ·rcases hb with hb | hb
   ·exact hb.1
   ·exact SD.out b (by omega)
 ·exact (((HB1.out.setCell (p:=⟨w.heap.size,2,none⟩) (aF _) _).setCell (p:=⟨w.heap.size+1,0,none⟩) (Nat.le_succ _) _).setCell (p:=⟨w.heap.size+1,1,none⟩) (Nat.le_succ _) _).setCell (p:=⟨w.heap.size+1,2,none⟩) (Nat.le_succ _) _
end Go.Proofs.YtgnncnhkgmhngaaGreatDoor
