import Derived.Test.YtgnncnhkgmhngaaGreatDoorJ34
set_option maxHeartbeats 4000000
set_option maxRecDepth 100000
namespace Go.Proofs.YtgnncnhkgmhngaaGreatDoor
open Go.RowKit Go.Shelf Go.Sort Go.Lib
def Fp (blk:Nat) (w:World) (v:Value) (vs:List Sv.Val):Prop:=
 (v = .slice none 0 0/\vs = [])\/∃ b off c,v = .slice (some ⟨b,off,none⟩) vs.length c/\b≠blk/\Hv w b off vs
theorem Fp.rw {blk:Nat} {w:World} {v:Value} {vs:List Sv.Val} (h:Fp blk w v vs):Rw w.heap.size w v vs:=by
 rcases h with h | ⟨b,o,c,h1,h2,h3⟩
 ·exact .inl h
 ·exact .inr ⟨b,o,c,h1,h3.lb,h3⟩
theorem Hv.kept {blk:Nat} {w w' : World} {b off:Nat} {vs:List Sv.Val} (h:Hv w b off vs) (k:Kept blk w w') (hb:b≠blk):Hv w' b off vs:=
 ⟨bY h.lb k.size,λj hj=>(k.cell (p:=⟨b,_,none⟩) h.lb hb).trans (h.k j hj),λj hj=>(k.cell (p:=⟨b,_,none⟩) h.lb hb).trans (h.n j hj),λj hj=>(k.cell (p:=⟨b,_,none⟩) h.lb hb).trans (h.s j hj)⟩
theorem Fp.kept {blk:Nat} {w w' : World} {v:Value} {vs:List Sv.Val} (h:Fp blk w v vs) (k:Kept blk w w'):Fp blk w' v vs:=by
 rcases h with h | ⟨b,o,c,h1,h2,h3⟩
 ·exact .inl h
 ·exact .inr ⟨b,o,c,h1,h2,h3.kept k h2⟩
structure mX (blk k:Nat) (w:World) where
 v:Value
 vs:List Sv.Val
 ok:Fp blk w v vs
 len:vs.length=k
theorem mY {α:Type} [Inhabited α] (enc:α->Value) (w:World) (blk off n:Nat) (d:Array α) (os:Array Obj):Kept blk w (sortWorld enc w blk off n d os):=by
 refine ⟨rfl,rfl,rfl,?_,?_⟩
 ·show w.heap.size<=(w.heap.modify blk _++os).size
  simp
 ·intro k hk hb
  show (w.heap.modify blk _++os)[k]?=_
  rw [Array.getElem?_append_left (by simpa using hk),Array.getElem?_modify,if_neg (Ne.symm hb)]
theorem BR {blk k:Nat} {w:World} : OneCell (λr:mX blk k w=>r.v):=λr=>by
 show r.v.oneCell'=true
 rcases r.ok with ⟨h,_⟩ | ⟨b,o,c,h,_⟩ <;> rw [h] <;> rfl
theorem JM {blk k:Nat} {w:World} : SWO (ltOf λx y:mX blk k w=>bP x.vs y.vs) where
 irrefl x:=by simp [ltOf,fZ]
 trans x y z h1 h2:=by simp only [ltOf,decide_eq_true_eq] at *;exact sR _ _ _ h1 h2
 ntrans x y z h1 h2:=by
  simp only [ltOf,decide_eq_false_iff_not,Int.not_lt] at *
  have a1:=dU x.vs y.vs
  have a2:=dU y.vs z.vs
  have a3:=dU x.vs z.vs
  have:=JL.Nc z.vs y.vs x.vs (by omega) (by omega)
  omega
theorem zW (blk off cap k:Nat) (w:World) (d:Array (mX blk k w)) (hk:k<=100000) (hd:0<d.size) (hsz:d.size<=100000) (hblk:blk<w.heap.size)
  (hc:∀ j,(h:j<d.size)->w.cell? ⟨blk,off+j,none⟩=some d[j].v/\w.frozen? ⟨blk,off+j,none⟩=false) :
  Calls Tryz.prog 238 #[.slice (some ⟨blk,off,none⟩) d.size cap, .func (.func 239) #[] #[]] w λe w'=>
   e = .returned (.tuple #[])/\Kept blk w w'/\∃ d' : Array (mX blk k w),d'.toList.map (·.vs)=aI (d.toList.map (·.vs))/\d'.size=d.size/\
    ∀ j,(h:j<d'.size)->w'.cell? ⟨blk,off+j,none⟩=some d'[j].v/\w'.frozen? ⟨blk,off+j,none⟩=false:=by
 letI:Inhabited (mX blk k w):=⟨d[0]⟩
 have hH:Holds (λr:mX blk k w=>r.v) w blk off d:=λj hj=>by
  rw [getElem!_pos d j hj];exact hc j hj
 have hcmp:CmpLays1 Tryz.prog 239 #[] (λr:mX blk k w=>r.v) (λx y=>bP x.vs y.vs) blk off d.size w:=by
  intro m os dk hdk x y
  have kp:=mY (λr:mX blk k w=>r.v) w blk off m dk os
  exact gT x.vs y.vs x.v y.v (by rw [x.len,y.len]) (by rw [x.len];exact hk) _ (x.ok.kept kp).rw (y.ok.kept kp).rw
 have eg:∀ args w,(callFunc 239 args).run Tryz.prog w = .ok (.enter 239 args) w:=enters_of Tryz.func239 (by kernel_rfl) rfl
 have h:=Any.slices_SortFunc Tryz.Ig (λr:mX blk k w=>r.v) BR (λx y=>bP x.vs y.vs) JM 239 #[] blk off cap d w eg hcmp hH hblk (by omega)
 change Calls Tryz.prog 238 _ _ _ at h
 refine h.mono ?_
 rintro e w' ⟨rfl,d',n,os,hp,hs,rfl⟩
 have hsz':=hp.1
 refine ⟨rfl,mY _ w blk off n d' os,d',?_,hsz',λj hj=>?_⟩
 ·apply zV
  ·have:=hp.2.2
   simp only [<- hsz',Array.extract_size] at this
   rw [hsz',Array.extract_size] at this
   exact this.map _
  ·rw [List.pairwise_iff_getElem]
   intro i j hi hj hij
   simp only [List.length_map,Array.length_toList] at hi hj
   have h1:=hs i j (fO _) hij (by omega)
   rw [getElem!_pos d' j hj,getElem!_pos d' i hi] at h1
   simp only [ltOf,decide_eq_false_iff_not,Int.not_lt] at h1
   simp only [List.getElem_map,Array.getElem_toList]
   have:=dU d'[j].vs d'[i].vs
   omega
 ·have:=holds_sortWorld (λr:mX blk k w=>r.v) w blk off n d d' os hblk hH hsz' j hj
  rw [getElem!_pos d' j hj] at this
  exact this
def RL (blk off k:Nat) (w:World) (rows:List (List Sv.Val)):Prop:=
 ∀ j,(h:j<rows.length)->∃ v,w.cell? ⟨blk,off+j,none⟩=some v/\w.frozen? ⟨blk,off+j,none⟩=false/\Fp blk w v rows[j]/\rows[j].length=k
theorem RL.array {blk off k:Nat} {w:World} {rows:List (List Sv.Val)} (h:RL blk off k w rows) :
  ∃ d:Array (mX blk k w),d.toList.map (·.vs)=rows/\∀ j,(hj:j<d.size)->w.cell? ⟨blk,off+j,none⟩=some d[j].v/\w.frozen? ⟨blk,off+j,none⟩=false:=by
 refine ⟨Array.ofFn (n:=rows.length) λj=>⟨Classical.choose (h j.1 j.2),rows[j.1],(Classical.choose_spec (h j.1 j.2)).2.2.1,(Classical.choose_spec (h j.1 j.2)).2.2.2⟩,?_,?_⟩
 ·apply List.ext_getElem
  ·simp
  ·intro i h1 h2;simp
 ·intro j hj
  have hj' : j<rows.length:=by simpa using hj
  have:=Classical.choose_spec (h j hj')
  simp only [Array.getElem_ofFn]
  exact ⟨this.1,this.2.1⟩
theorem JN (blk off n cap k:Nat) (w:World) (rows:List (List Sv.Val)) (hk:k<=100000) (hn:n=rows.length) (h1:0<n) (hsz:n<=100000) (hblk:blk<w.heap.size) (h:RL blk off k w rows) :
  Calls Tryz.prog 238 #[.slice (some ⟨blk,off,none⟩) n cap, .func (.func 239) #[] #[]] w λe w'=>e = .returned (.tuple #[])/\Kept blk w w'/\RL blk off k w' (aI rows):=by
 obtain ⟨d,hd,hc⟩:=h.array
 have hds:d.size=n:=by rw [hn,<- hd];simp
 have H:=zW blk off cap k w d hk (by omega) (by omega) hblk hc
 rw [hds] at H
 refine Calls.mono H ?_
 rintro e w' ⟨rfl,hk',d',h1',h2',h3'⟩
 refine ⟨rfl,hk',λj hj=>?_⟩
 have e1:(aI rows).length=d'.size:=by rw [<- hd,<- h1'];simp
 have hj' : j<d'.size:=by omega
 have e2:(aI rows)[j]=d'[j].vs:=by
  have:aI rows=d'.toList.map (·.vs):=by rw [<- hd,<- h1']
  simp only [this,List.getElem_map,Array.getElem_toList]
 exact ⟨d'[j].v,(h3' j hj').1,(h3' j hj').2,by rw [e2];exact d'[j].ok.kept hk',by rw [e2];exact d'[j].len⟩
open Go.RowKit Go.Shelf
structure Fr (C:Nat->Prop) (A B:World):Prop where
 os:B.os=A.os
 tape:B.tape=A.tape
 output:B.output=A.output
 size:A.heap.size<=B.heap.size
 block:∀ k,k<A.heap.size->C k->B.heap[k]?=A.heap[k]?
theorem Fr.refl (C:Nat->Prop) (A:World):Fr C A A:=⟨rfl,rfl,rfl,aF _,λ_ _ _=>rfl⟩
theorem Fr.trans {C:Nat->Prop} {X Y Z:World} (h:Fr C X Y) (k:Fr C Y Z):Fr C X Z:=
 ⟨k.os.trans h.os,k.tape.trans h.tape,k.output.trans h.output,cE h.size k.size,λi hi hc=>(k.block i (bY hi h.size) hc).trans (h.block i hi hc)⟩
theorem Fr.dZ {C:Nat->Prop} {A B:World} (g:Gr A B):Fr C A B:=⟨g.below.os,g.below.tape,g.below.output,g.size,λk hk _=>g.below.block k hk⟩
theorem Fr.cell {C:Nat->Prop} {A B:World} (h:Fr C A B) {p:Addr} (hp:p.block<A.heap.size) (hc:C p.block):B.cell? p=A.cell? p:=fB (h.block p.block hp hc)
theorem Fr.frozen {C:Nat->Prop} {A B:World} (h:Fr C A B) {p:Addr} (hp:p.block<A.heap.size) (hc:C p.block):B.frozen? p=A.frozen? p:=wF (h.block p.block hp hc)
theorem GT {α:Type} {F:Fence} {n:Nat} {P:Program} {g:Operand} {ps:Array Tmp} {assign body:Code} {Q:Exit->Act->World->Prop} {a:Act} {w:World}
  (hro:F.round=none) (h1:1<=n) {gf:Nat} {lb:Array Value} (hg:a.eval g = .func (.func gf) #[] lb) (hFg:F.fn gf) (eg:∀ args w,(callFunc gf args).run P w = .ok (.enter gf args) w)
  (encs:α->Array Value) (hps:∀ x,(encs x).size=ps.size)
  (C:Nat->Prop) (hC0:C w.heap.size) (Uh:C (w.heap.size+1))
  (B:List α->Prop) (M:α->World->Prop) (hM:∀ x A o,M x A->M x (A.putObj (w.heap.size+1) o))
  (S:List α->Prop) (Tn:World->World->Prop) (hT:∀ A B,Tn A B->B.heap[w.heap.size]?=A.heap[w.heap.size]?/\B.heap[w.heap.size+1]?=A.heap[w.heap.size+1]?)
  (hseq:∀ (J:List α->World->Prop),(∀ s A B,J s A->Tn A B->J s B)->
   (∀ pre x W,J pre W->M x W->B (pre ++ [x])->YieldAt F (n - 1 - 1) P (w.heap.size+1) (encs x) W λe W'=>e = .returned (.bool true)/\J (pre ++ [x]) W'/\Fr C W W')->
   ∀ W1,W1.heap.size=w.heap.size+2->RowKit.Below w.heap.size w W1->J [] W1->CallsIn F (n - 1) P gf (#[.func (.yield (w.heap.size+1)) #[] #[]]++lb) W1 λe W'=>(∃ v,e = .returned v)/\∃ xs,S xs/\J xs W')
  (I:List α->World->Prop) (hI:∀ s A B,I s A->Tn A B->I s B) (QO:∀ s A k o,(k=w.heap.size\/k=w.heap.size+1)->I s A->I s (A.putObj k o))
  (h0:∀ W1,W1.heap.size=w.heap.size+2->RowKit.Below w.heap.size w W1->I [] W1)
  (a₁:α->Act)
  (hassign:∀ (l:Nat) (x:α) (W:World) (K:Act->World->Prop),K (a₁ x) W->
   assign.wpIn (F.inRound l) (n - 1 - 1) P (Exit.then K (λ_ _ _=>False)) { tmps:=(ps.zip (encs x)).foldl (λt (p,v)=>t.setIfInBounds p v) a.tmps,defers := [] } W)
  (hbody:∀ (l:Nat) (pre:List α) (x:α) (W:World),I pre W->M x W->B (pre ++ [x])->body.wpIn (F.inRound l) (n - 1 - 1) P (λe _ W'=>e = .normal/\Fr C W W'/\I (pre ++ [x]) W') (a₁ x) W)
  (hdone:∀ (xs:List α) (W:World),S xs->I xs W->W.heap[w.heap.size]?=some (.deferred (some []))->Q .normal { a with defers:={ target := .collected w.heap.size,args:=#[] }::a.defers } W) :
  (Code.rangeFunc g ps assign body).wpIn F n P Q a w:=by
 refine wpIn_rangeFunc λfn hfn=>?_
 rw [hro]
 -- the loop's record,ready and busy
 obtain ⟨rd,hrd⟩:∃ r:Loop,r={ state := .ready,pending:=none,fn,tmps:=a.tmps,params:=ps,assign,body,defers:=w.heap.size }:=⟨_,rfl⟩
 obtain ⟨W1,hW1⟩:∃ W1,W1=(w.alloc (.deferred (some []))).alloc (.loop rd):=⟨_,rfl⟩
 have hs1:W1.heap.size=w.heap.size+2:=by rw [hW1];simp
 have hb1:RowKit.Below w.heap.size w W1:=by rw [hW1];exact ((Below.refl _ w).alloc (aF _) _).alloc (by simp) _
 have hL1:W1.heap[w.heap.size+1]?=some (.loop rd):=by
  rw [hW1];have:=World.alloc_heap_new (w.alloc (.deferred (some []))) (.loop rd);rwa [World.size_alloc] at this
 have hD1:W1.heap[w.heap.size]?=some (.deferred (some [])):=by
  rw [hW1];exact (kX _ _ _ (by simp)).trans (World.alloc_heap_new w _)
 refine ⟨w.heap.size+1, [{ target := .collected w.heap.size,args:=#[] }],W1,{ target := .fn (.func gf) lb,args:=#[.func (.yield (w.heap.size+1)) #[] #[]] },W1,gf,
  #[.func (.yield (w.heap.size+1)) #[] #[]]++lb,W1,?_,?_,?_,?_,λ_=>h1,?_⟩
 ·rw [hW1,hrd];exact run_enterLoop_outer _ _ _ _ _
 ·simp only [resolve,hg];simp [go_sem]
 ·intro f' hf';simp [Target.leads] at hf';subst hf';exact hFg
 ·simp [invoke,go_sem,eg]
 ·refine (hseq (λpre W=>I pre W/\W.heap[w.heap.size+1]?=some (.loop rd)/\W.heap[w.heap.size]?=some (.deferred (some [])))
   (λs A B hs ht=>⟨hI s A B hs.1 ht,(hT A B ht).2.trans hs.2.1,(hT A B ht).1.trans hs.2.2⟩) ?_ W1 hs1 hb1 ⟨h0 W1 hs1 hb1,hL1,hD1⟩).mono ?_
  ·rintro pre x W ⟨hi,hl,hd⟩ hm hBx
   have hlt:w.heap.size+1<W.heap.size:=(Array.getElem?_eq_some_iff.1 hl).1
   have hy:=run_yield (P:=P) (args:=encs x) hl (by rw [hrd];exact hps x)
   rw [hrd] at hy
   refine ⟨fn,_,assign,body,hy,roundIn_of_wpIn hfn (hassign _ x W _ ⟨_,run_beginRound hl (by rw [hrd]),?_⟩)⟩
   refine wpIn_mono (hbody _ pre x _ (QO _ _ _ _ (.inr rfl) hi) (hM x W _ hm) hBx) ?_
   rintro e a3 W3 ⟨rfl,hfr,hi3⟩
   have hl2:(W.putObj (w.heap.size+1) (.loop { rd with state := .busy })).heap[w.heap.size+1]?=some (.loop { rd with state := .busy }):=World.putObj_heap_same hlt
   have hsz:(W.putObj (w.heap.size+1) (.loop { rd with state := .busy })).heap.size=W.heap.size:=by simp
   have hl3:W3.heap[w.heap.size+1]?=some (.loop { rd with state := .busy }):=(hfr.block _ (by rw [hsz];exact hlt) Uh).trans hl2
   have hr3:=run_endRound (P:=P) none hl3
   have hlt3:w.heap.size+1<W3.heap.size:=(Array.getElem?_eq_some_iff.1 hl3).1
   have hback:({ { rd with state := .busy } with state:=if (none:Option Code).isNone then .ready else .done,pending:=none } : Loop)=rd:=by rw [hrd];rfl
   rw [hback] at hr3
   refine ⟨_,_,hr3,rfl,⟨QO _ _ _ _ (.inr rfl) hi3,World.putObj_heap_same hlt3,?_⟩,?_⟩
   ·rw [World.putObj_heap_other (by omega),hfr.block _ (by rw [hsz];omega) hC0,World.putObj_heap_other (by omega)];exact hd
   ·refine ⟨?_,?_,?_,?_,?_⟩
    ·exact hfr.os
    ·exact hfr.tape
    ·exact hfr.output
    ·have:=hfr.size;rw [hsz] at this;simpa using this
    ·intro k hk hc
     by_cases e:k=w.heap.size+1
     ·rw [e,World.putObj_heap_same hlt3,hl]
     ·rw [World.putObj_heap_other e,hfr.block k (by rw [hsz];exact hk) hc,World.putObj_heap_other e]
  ·rintro e W2 ⟨⟨v,rfl⟩,xs,hS,hi,hl,hd⟩
   have hend:=run_endLoop (P:=P) hl (by rw [hrd];simp)
   rw [show rd.pending=none by rw [hrd]] at hend
   exact ⟨none,_,hend,hdone xs _ hS (QO _ _ _ _ (.inr rfl) hi) ((World.putObj_heap_other (by omega)).trans hd)⟩
attribute [local go_sem] Oper.semAt_some
theorem GU {m:Nat} (m' : Nat) {P:Program} {l:Nat} {args:Array Value} {W:World} {R:Ending->World->Prop} (h:YieldAt Fence.wide m P l args W R):YieldAt Fence.wide m' P l args W R:=by
 obtain ⟨fn,tmps,assign,body,hy,h1,h2⟩:=h
 exact ⟨fn,tmps,assign,body,hy,h1,λc cs _=>h2 c cs (λd hd=>by cases hd)⟩
def aK {α:Type} : List (List α)->List (List α)
 | [] => [[]]
 | t::ts=>t.flatMap λr=>(aK ts).map (r::·)
def Sl (C:Nat->Prop) (w:World) (v:Value) (rs:List Value):Prop:=
 (v = .slice none 0 0/\rs = [])\/∃ b off c,v = .slice (some ⟨b,off,none⟩) rs.length c/\b<w.heap.size/\C b/\∀ j,(h:j<rs.length)->w.cell? ⟨b,off+j,none⟩=some rs[j]
theorem Sl.fr {C:Nat->Prop} {A B:World} {v:Value} {rs:List Value} (h:Sl C A v rs) (f:Fr C A B):Sl C B v rs:=by
 rcases h with h | ⟨b,o,c,h1,h2,h3,h4⟩
 ·exact .inl h
 ·exact .inr ⟨b,o,c,h1,bY h2 f.size,h3,λj hj=>(f.cell (p:=⟨b,_,none⟩) h2 h3).trans (h4 j hj)⟩
structure Tabs (C:Nat->Prop) (w:World) (tb zX:Nat) (tabs:List (List Value)):Prop where
 lt:tb<w.heap.size
 own:C tb
 at_:∀ i,(h:i<tabs.length)->∃ v,w.cell? ⟨tb,zX+i,none⟩=some v/\Sl C w v tabs[i]
theorem Tabs.fr {C:Nat->Prop} {A B:World} {tb zX:Nat} {tabs:List (List Value)} (h:Tabs C A tb zX tabs) (f:Fr C A B):Tabs C B tb zX tabs:=
 ⟨bY h.lt f.size,h.own,λi hi=>by obtain ⟨v,h1,h2⟩:=h.at_ i hi;exact ⟨v,(f.cell (p:=⟨tb,_,none⟩) h.lt h.own).trans h1,h2.fr f⟩⟩
structure Tk (w:World) (T m:Nat) (x:List Value):Prop where
 lt:T<w.heap.size
 some_:∀ i,i<m->∃ v,w.cell? ⟨T,i,none⟩=some v
 un:∀ i,w.frozen? ⟨T,i,none⟩=false
 at_:∀ i,(h:i<x.length)->w.cell? ⟨T,i,none⟩=some x[i]
theorem Tk.fr {C:Nat->Prop} {A B:World} {T m:Nat} {x:List Value} (h:Tk A T m x) (f:Fr C A B) (hc:C T):Tk B T m x:=
 ⟨bY h.lt f.size,λi hi=>by obtain ⟨v,hv⟩:=h.some_ i hi;exact ⟨v,(f.cell (p:=⟨T,_,none⟩) h.lt hc).trans hv⟩,λi=>(f.frozen (p:=⟨T,_,none⟩) h.lt hc).trans (h.un i),λi hi=>(f.cell (p:=⟨T,_,none⟩) h.lt hc).trans (h.at_ i hi)⟩
theorem Tk.put {A:World} {T m:Nat} {x:List Value} (h:Tk A T m x) (hm:x.length<m) (v:Value):Tk (A.setCell ⟨T,x.length,none⟩ v) T m (x ++ [v]):=by
 obtain ⟨u,hu⟩:=h.some_ _ hm
 refine ⟨by simpa using h.lt,λi hi=>?_,λi=>by rw [World.frozen?_setCell];exact h.un i,λi hi=>?_⟩
 ·by_cases e:i=x.length
  ·subst e;exact ⟨v,World.cell?_setCell_same' _ _ _ (by rw [hu];rfl)⟩
  ·obtain ⟨v',hv'⟩:=h.some_ i hi
   exact ⟨v',by rw [World.cell?_setCell_other _ _ _ _ (by intro e';apply e;injection e' with _ e2 _;exact e2.symm)];exact hv'⟩
 ·by_cases e:i=x.length
  ·subst e;rw [World.cell?_setCell_same' _ _ _ (by rw [hu];rfl)];simp
  ·have hi' : i<x.length:=by simp at hi;omega
   rw [World.cell?_setCell_other _ _ _ _ (by intro e';apply e;injection e' with _ e2 _;exact e2.symm),h.at_ i hi',List.getElem_append_left hi']
theorem Tk.cut {A:World} {T m:Nat} {x:List Value} {v:Value} (h:Tk A T m (x ++ [v])):Tk A T m x:=
 ⟨h.lt,h.some_,h.un,λi hi=>by have:=h.at_ i (by simp;omega);rw [List.getElem_append_left hi] at this;exact this⟩
theorem Fr.mono {C C' : Nat->Prop} {A B:World} (h:Fr C A B) (hc:∀ k,C' k->C k):Fr C' A B:=⟨h.os,h.tape,h.output,h.size,λk hk hk'=>h.block k hk (hc k hk')⟩
theorem Eb (A:World) (T o:Nat) (v:Value):Fr (·≠T) A (A.setCell ⟨T,o,none⟩ v):=
 ⟨rfl,rfl,rfl,by simp,λk _ hk=>dQ _ _ _ _ hk⟩
theorem xL {α:Type} (t:List α) (k:Nat) (h:k<t.length) (f:α->List (List Value)):(t.take (k+1)).flatMap f=(t.take k).flatMap f++f t[k]:=by
 rw [uV h,List.flatMap_append]
 show _++(f t[k] ++ [])=_
 rw [List.append_nil]
theorem BS (C:Nat->Prop) (l T tb zX tc:Nat) (tabs:List (List Value)) (hT:C T) (hb:tabs.length<=1000) (hbb:∀ t∈tabs,t.length<=100000) (hrs:∀ t∈tabs,∀ r∈t,∃ a l c,r = .slice a l c) (J:List (List Value)->World->Prop) (B:List (List Value)->Prop) (hB:∀ p q,B (p++q)->B p)
  (hJ:∀ s A B,J s A->Fr (·≠T) A B->J s B)
  (hY:∀ m pre x W,J pre W->Tk W T tabs.length x->x.length=tabs.length->x∈aK tabs->B (pre ++ [x])->YieldAt Fence.wide m Tryz.prog l #[.slice (some ⟨T,0,none⟩) tabs.length tabs.length] W λe W'=>e = .returned (.bool true)/\J (pre ++ [x]) W'/\Fr C W W') :
  ∀ (rest done:List (List Value)) (n num:Nat) (x:List Value) (acc:List (List Value)) (W:World),tabs=done++rest->x.length=done.length->num=x.length->(∀ y∈aK rest,x++y∈aK tabs)->B (acc++(aK rest).map (x++·))->J acc W->Tk W T tabs.length x->Tabs (λk=>C k/\k≠T) W tb zX tabs->
  CallsIn Fence.wide n Tryz.prog 192 #[.int .i64 (num:Int), .slice (some ⟨tb,zX,none⟩) tabs.length tc, .slice (some ⟨T,0,none⟩) tabs.length tabs.length, .func (.yield l) #[] #[]] W
   λe W'=>e = .returned (.bool true)/\J (acc++(aK rest).map (x++·)) W'/\Tk W' T tabs.length x/\Fr (λk=>C k/\k≠T) W W':=by
 intro rest
 induction rest with
 | nil=>
  intro done n num x acc W pU hx hnum hmem hba hj hk ht
  have hlen:x.length=tabs.length:=by rw [pU,hx];simp
  obtain ⟨fn,tmps,assign,body,hy,hR⟩:=hY (n - 1) acc x W hj hk hlen (by have:=hmem [] (by simp [aK]);simpa using this) (by simpa [aK] using hba)
  have hnn:num=tabs.length:=hnum.trans hlen
  clear hnum hx pU hlen
  subst hnn
  have HT:=hid ht
  have HK:=hid hk
  clear ht hk
  refine callsIn_of_wp Tryz.func192 rfl trivial ?_ rfl
  simp only [Tryz.ntmps192,List.size_toArray,List.length_cons,List.length_nil,Nat.reduceAdd,Nat.reduceSub,Array.replicate_succ,Array.replicate_zero,List.push_toArray,List.append_toArray,List.nil_append,List.cons_append]
  gi_wp2
  refine ⟨λh=>(by cases h),?_⟩
  refine hR.mono ?_
  rintro e W3 ⟨rfl,hJ3,hf3⟩
  gi_wp2
  go_ret
  exact ⟨rfl,by simpa [aK] using hJ3,HK.out.fr hf3 hT,hf3.mono λk h=>h.1⟩
 | cons t rest ih=>
  intro done n num x acc W pU hx hnum hmem hba hj hk ht
  have hlt:num<tabs.length:=by rw [pU,hnum,hx];simp
  have hti:tabs[num]=t:=by simp only [pU,hnum,hx];simp
  have htl:t.length<=100000:=hbb t (by rw [pU];simp)
  have hrt:∀ r∈t,∃ a l c,r = .slice a l c:=hrs t (by rw [pU];simp)
  have HIH:Hid (∀ (r:Value) (acc:List (List Value)) (W:World),r∈t->B (acc++(aK rest).map ((x ++ [r])++·))->J acc W->Tk W T tabs.length (x ++ [r])->Tabs (λk=>C k/\k≠T) W tb zX tabs->
    CallsIn Fence.wide (n - 1) Tryz.prog 192 #[.int .i64 ((num:Int)+1), .slice (some ⟨tb,zX,none⟩) tabs.length tc, .slice (some ⟨T,0,none⟩) tabs.length tabs.length, .func (.yield l) #[] #[]] W
     λe W'=>e = .returned (.bool true)/\J (acc++(aK rest).map ((x ++ [r])++·)) W'/\Tk W' T tabs.length (x ++ [r])/\Fr (λk=>C k/\k≠T) W W'):=λr acc W hr Ui hj hk ht=>by
   have h:=ih (done ++ [t]) (n - 1) (num+1) (x ++ [r]) acc W (by rw [pU];simp) (by simp [hx]) (by simp [hnum]) (λy hy=>by
    have:=hmem (r::y) (by simp only [aK,List.mem_flatMap,List.mem_map];exact ⟨r,hr,y,hy,rfl⟩)
    simpa using this) Ui hj hk ht
   have e:((num+1:Nat):Int)=(num:Int)+1:=by omega
   rw [e] at h
   exact h
  obtain ⟨v,hv,hsl⟩:=ht.at_ num hlt
  rw [hti] at hsl
  have HT:=hid ht
  have HK:=hid hk
  have HJ:=hid hj
  have HN:=hid hnum
  have Yt:Hid (B (acc++t.flatMap λr=>(aK rest).map ((x ++ [r])++·))):=by
   show B _
   have e:(aK (t::rest)).map (x++·)=t.flatMap λr=>(aK rest).map ((x ++ [r])++·):=by
    simp only [aK,List.map_flatMap,List.map_map]
    congr 1
    funext r
    congr 1
    funext y
    simp
   rw [<- e];exact hba
  clear ih pU hx hmem hti ht hk hj hnum hba
  have hne1:((num:Int) == (tabs.length:Int))=false:=by simp;omega
  refine callsIn_of_wp Tryz.func192 rfl trivial ?_ rfl
  simp only [Tryz.ntmps192,List.size_toArray,List.length_cons,List.length_nil,Nat.reduceAdd,Nat.reduceSub,Array.replicate_succ,Array.replicate_zero,List.push_toArray,List.append_toArray,List.nil_append,List.cons_append]
  rcases hsl with ⟨rfl,rfl⟩ | ⟨b,off,c,rfl,hbl,Yu,hcells⟩
  ·gi_wp2
   gi_loopw [21] (λi w2=>i = .int .i64 0/\w2=W) (λ_ _=>0)
   case atStart=>exact ⟨rfl,rfl⟩
   case round=>
    obtain ⟨rfl,rfl⟩:=hrel
    gi_wp2
    go_ret
    exact ⟨rfl,by simpa [aK] using HJ.out,HK.out,Fr.refl _ _⟩
  ·have HC:=hid hcells
   clear hcells
   gi_wp2
   gi_loopw [21] (λi w2=>∃ k:Nat,k<=t.length/\i = .int .i64 k/\Hid (J (acc++(t.take k).flatMap λr=>(aK rest).map ((x ++ [r])++·)) w2)/\Hid (Tk w2 T tabs.length x)/\Hid (Fr (λk=>C k/\k≠T) W w2)) (λi _=>t.length - (intOf i).toNat)
   case atStart=>exact ⟨0,fO _,rfl,by show J _ _;simpa using HJ.out,HK,Fr.refl _ _⟩
   case round=>
    obtain ⟨k,hk,rfl,HJ2,aY,HF2⟩:=hrel
    by_cases hlt2:k<t.length
    ·have c0:=(HF2.out.cell (p:=⟨b,off+k,none⟩) hbl Yu).trans (HC.out k hlt2)
     obtain ⟨u,hu⟩:=aY.out.some_ num hlt
     have hfz:=aY.out.un num
     have hmem:t[k]∈t:=jD hlt2
     have HX:=HIH.out t[k] (acc++(t.take k).flatMap λr=>(aK rest).map ((x ++ [r])++·)) (wr.setCell ⟨T,num,none⟩ t[k]) hmem (by
      have h1:=Yt.out
      have h2:t=t.take (k+1)++t.drop (k+1):=(List.take_append_drop _ _).symm
      rw [h2,List.flatMap_append,<- List.append_assoc] at h1
      have h3:=hB _ _ h1
      rw [xL t k hlt2,<- List.append_assoc] at h3
      exact h3) (hJ _ _ _ HJ2.out (Eb _ _ _ _)) (by have:=aY.out.put (by have:=HN.out;omega) t[k];rw [<- HN.out] at this;exact this) ((HT.out.fr HF2.out).fr ((Eb _ _ _ _).mono λk h=>h.2))
     have SE:Hid ((acc++(t.take k).flatMap λr=>(aK rest).map ((x ++ [r])++·))++(aK rest).map ((x ++ [t[k]])++·)=acc++(t.take (k+1)).flatMap λr=>(aK rest).map ((x ++ [r])++·)):=by
      show _=_;rw [xL t k hlt2,List.append_assoc]
     obtain ⟨ra,rl,rc,hr⟩:=hrt t[k] hmem
     rw [hr] at c0 HX SE
     clear hr hmem
     gi_wp2
     refine ⟨trivial,λh=>(by cases h),?_⟩
     refine HX.mono ?_
     rintro e W3 ⟨rfl,hJ3,hK3,hF3⟩
     have QM:Hid (J (acc++(t.take (k+1)).flatMap λr=>(aK rest).map ((x ++ [r])++·)) W3):=by show J _ _;rw [<- SE.out];exact hJ3
     have LL:Hid (Fr (λk=>C k/\k≠T) W W3):=(HF2.out.trans ((Eb _ _ _ _).mono λk h=>h.2)).trans hF3
     clear hJ3 HX
     gi_wp2
     go_roundw
     case rel=>exact ⟨k+1,by omega,by go_num,QM,hK3.cut,LL⟩
     case measure=>simp [intOf];omega
    ·obtain rfl:k=t.length:=by omega
     gi_wp2
     go_ret
     exact ⟨rfl,by have:=HJ2.out;rw [List.take_length] at this;simp only [aK,List.map_flatMap,List.map_map];simpa [Function.comp_def] using this,aY.out,HF2.out⟩
end Go.Proofs.YtgnncnhkgmhngaaGreatDoor
namespace Go.Proofs.YtgnncnhkgmhngaaGreatDoor
open Go.RowKit Go.Shelf
attribute [local go_sem] Oper.semAt_some
theorem zY (a:Option Addr) (l c:Nat) (w:World) :
  Calls Tryz.prog 149 #[.slice a l c] w λe w'=>e = .returned (.func (.func 191) #[] #[.pointer (some ⟨w.heap.size,0,none⟩)])/\w'=w.alloc (.cells #[.slice a l c] 326):=by
 go_enter Tryz.func149,Tryz.ntmps149
 go_wp2
 go_ret
 exact ⟨rfl,rfl⟩
theorem BT:(Tryz.prog.info? 41).map (λi=>(i.zero,i.size,i.bytes))=some (some (.slice none 0 0),1,24):=by kernel_rfl
theorem GV (m:Nat) (hm:m<=1000) (w:World) :
  (Instr.makeSlice 32 (.int .i64 (m:Int)) (.int .i64 (m:Int))).run Tryz.prog w = .ok (.slice (some ⟨w.heap.size,0,none⟩) m m) (w.alloc (.cells (madeCells #[.slice none 0 0] m) 41)):=by
 obtain ⟨i0,hi,hz0,hz1,hz2⟩:=info_parts BT
 have h:=run_make (P:=Tryz.prog) w 32 41 i0 (.slice none 0 0) Tryz.underlying32 hi hz0 .i64 .i64 (m:Int) (m:Int) (by omega) (Int.le_refl _) (by rw [hz2];omega) (by omega)
 rw [hz1,Nat.mul_one,Int.toNat_natCast] at h
 exact h
theorem Oi (W:World) (m:Nat):Tk (W.alloc (.cells (madeCells #[.slice none 0 0] m) 41)) W.heap.size m []:=by
 have hsz:=size_madeCells #[.slice none 0 0] m
 generalize madeCells #[.slice none 0 0] m=cs at hsz
 have hb:=World.alloc_heap_new W (.cells cs 41)
 refine ⟨by simp,λi hi=>⟨cs[i]'(by omega),?_⟩,λi=>?_,λi hi=>by simp at hi⟩
 ·simp only [World.cell?,hb]
  simp [show i<cs.size by omega]
 ·simp only [World.frozen?,hb]
  simp
def JO (T:Nat) (tabs:List (List Value)) (x:List Value) (W:World):Prop:=Tk W T tabs.length x/\x.length=tabs.length/\x∈aK tabs
theorem BU (C:Nat->Prop) (A:World) (o:Obj):Fr C A (A.alloc o):=Fr.dZ ((Gr.refl A).alloc o)
theorem Tabs.below {C:Nat->Prop} {n₀:Nat} {A B:World} {tb zX:Nat} {tabs:List (List Value)} (h:Tabs C A tb zX tabs) (hs:n₀=A.heap.size) (g:RowKit.Below n₀ A B):Tabs C B tb zX tabs:=
 h.fr ⟨g.os,g.tape,g.output,g.size,λk hk _=>g.block k (by omega)⟩
theorem zZ (w:World) (C:Nat->Prop) (Yv:C (w.heap.size+2)) (n Bs tb zX tc:Nat) (tabs:List (List Value)) (_hm:0<tabs.length) (hb:tabs.length<=1000) (hbb:∀ t∈tabs,t.length<=100000) (hrs:∀ t∈tabs,∀ r∈t,∃ a l c,r = .slice a l c)
  (hBs:Bs<w.heap.size) (hc:w.cell? ⟨Bs,0,none⟩=some (.slice (some ⟨tb,zX,none⟩) tabs.length tc)) (ht:Tabs (λk=>C k/\k≠w.heap.size+2) w tb zX tabs)
  (B:List (List Value)->Prop) (hB:∀ p q,B (p++q)->B p) (hBt:B (aK tabs))
  (J:List (List Value)->World->Prop) (hJ:∀ s A B,J s A->Fr (·≠w.heap.size+2) A B->J s B)
  (hY:∀ pre x W,J pre W->JO (w.heap.size+2) tabs x W->B (pre ++ [x])->YieldAt Fence.wide (n - 1) Tryz.prog (w.heap.size+1) #[.slice (some ⟨w.heap.size+2,0,none⟩) tabs.length tabs.length] W λe W'=>e = .returned (.bool true)/\J (pre ++ [x]) W'/\Fr C W W')
  (W1:World) (hs1:W1.heap.size=w.heap.size+2) (hb1:RowKit.Below w.heap.size w W1) (h0:J [] W1) :
  CallsIn Fence.wide n Tryz.prog 191 (#[.func (.yield (w.heap.size+1)) #[] #[]]++#[.pointer (some ⟨Bs,0,none⟩)]) W1 λe W'=>(∃ v,e = .returned v)/\∃ xs,xs=aK tabs/\J xs W':=by
 have c0:W1.cell? ⟨Bs,0,none⟩=some (.slice (some ⟨tb,zX,none⟩) tabs.length tc):=(hb1.cell (p:=⟨Bs,0,none⟩) hBs).trans hc
 have HT:Hid (Tabs (λk=>C k/\k≠w.heap.size+2) W1 tb zX tabs):=ht.below rfl hb1
 clear hc ht hb1
 refine callsIn_of_wp Tryz.func191 rfl trivial ?_ rfl
 simp only [Tryz.ntmps191,List.size_toArray,List.length_cons,List.length_nil,Nat.reduceAdd,Nat.reduceSub,Array.replicate_succ,Array.replicate_zero,List.push_toArray,List.append_toArray,List.nil_append,List.cons_append]
 have hmk:=GV tabs.length hb
 have HK:=Oi W1 tabs.length
 rw [hs1] at HK
 have HX:=BS C (w.heap.size+1) (w.heap.size+2) tb zX tc tabs Yv hb hbb hrs J B hB hJ (λm pre x W h1 h2 h3 h4 h5=>GU m (hY pre x W h1 ⟨h2,h3,h4⟩ h5)) tabs [] (n - 1) 0 [] [] (W1.alloc (.cells (madeCells #[.slice none 0 0] tabs.length) 41)) (by simp) rfl rfl (λy hy=>by simpa using hy) (by simpa using hBt) (hJ _ _ _ h0 (BU _ _ _)) HK (HT.out.fr (BU _ _ _))
 clear HK
 have c1:(W1.alloc (.cells (madeCells #[.slice none 0 0] tabs.length) 41)).cell? ⟨Bs,0,none⟩=some (.slice (some ⟨tb,zX,none⟩) tabs.length tc):=((Gr.refl W1).alloc _ |>.cell (p:=⟨Bs,0,none⟩) (by show Bs<_;omega)).trans c0
 gi_wp2
 refine ⟨trivial,λh=>(by cases h),?_⟩
 refine HX.mono ?_
 rintro e W3 ⟨rfl,hJ3,_,_⟩
 gi_wp2
 go_end0
 exact ⟨⟨_,rfl⟩,_,rfl,by simpa using hJ3⟩
end Go.Proofs.YtgnncnhkgmhngaaGreatDoor
