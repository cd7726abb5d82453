import Derived.Test.YtgnncnhkgmhngaaGreatDoorJ46
set_option maxHeartbeats 4000000
set_option maxRecDepth 100000
namespace Go.Proofs.YtgnncnhkgmhngaaGreatDoor
open Sp
open Go.RowKit Go.Sort
theorem Nn (w:World) (a:Addr) (v:Value):(w.setCell a v).os=w.os:=rfl
theorem Fx (w:World) (a:Addr) (v:Value):(w.setCell a v).tape=w.tape:=rfl
theorem x9 (w:World) (a:Addr) (v:Value):(w.setCell a v).output=w.output:=rfl
theorem Kg (w:World) (o:Obj):(w.alloc o).os=w.os:=rfl
theorem Ao (w:World) (o:Obj):(w.alloc o).tape=w.tape:=rfl
theorem rE (w:World) (o:Obj):(w.alloc o).output=w.output:=rfl
def j8 (w:World) (bb:Nat) (tv:Value):Prop:=w.heap[bb]?=some (.cells #[tv, .bool false, .slice none 0 0] 115 (0,0))
structure Zf (bb:Nat) (w:World) (T:List Sp.Tb) (tv:Value):Prop where
 blk:j8 w bb tv
 Ol:cD (·≠bb) w T tv
theorem j8.lt {w:World} {bb:Nat} {tv:Value} (h:j8 w bb tv):bb<w.heap.size:=(Array.getElem?_eq_some_iff.1 h).1
theorem j8.bk {w:World} {bb:Nat} {tv:Value} (h:j8 w bb tv):Bk w bb [tv, .bool false, .slice none 0 0]:=by
 have e:w.heap[bb]?=_:=h
 refine ⟨h.lt,λj hj=>?_,λj=>?_⟩
 ·match j,hj with
  | 0,_=>simp [World.cell?,e]
  | 1,_=>simp [World.cell?,e]
  | 2,_=>simp [World.cell?,e]
 ·simp [World.frozen?,e]
theorem j8.set {w:World} {bb:Nat} {tv:Value} (h:j8 w bb tv) (tv' : Value):j8 (w.setCell ⟨bb,0,none⟩ tv') bb tv':=by
 obtain ⟨hlt,hk⟩:=Array.getElem?_eq_some_iff.1 h
 show (w.heap.modify bb _)[bb]?=_
 rw [Array.getElem?_eq_getElem (by rw [Array.size_modify];exact hlt),Array.getElem_modify_self,hk]
 rfl
def SV (w:World) (q:Nat):Prop:=∀ o s,w.cell? ⟨q,o,none⟩≠some (.string s)
theorem j8.noS {w:World} {bb:Nat} {ta:Option Addr} {tn tc:Nat} (h:j8 w bb (.slice ta tn tc)):SV w bb:=by
 intro o s e
 have hb:w.heap[bb]?=_:=h
 simp only [World.cell?,hb] at e
 match o,e with
 | 0,e=>simp at e
 | 1,e=>simp at e
 | 2,e=>simp at e
 | o+3,e=>simp at e
theorem p9 {w:World} {q:Nat} {t:TypeId} (h:w.heap[q]?=some (.cells #[.int .i64 0, .int .i64 0, .int .i64 0, .slice none 0 0, .int .i64 0] t (0,0))):SV w q:=by
 intro o s e
 simp only [World.cell?,h] at e
 match o,e with
 | 0,e=>simp at e
 | 1,e=>simp at e
 | 2,e=>simp at e
 | 3,e=>simp at e
 | 4,e=>simp at e
 | o+5,e=>simp at e
theorem Hv.noS {A B:World} {Q:Nat->Prop} {b off:Nat} {r:List Sv.Val} (h:Hv A b off r) (hq:∀ q,Q q->SV A q) (hs:A.heap.size<=B.heap.size) (hb:∀ j,j<A.heap.size->¬ Q j->B.heap[j]?=A.heap[j]?):Hv B b off r:=by
 by_cases e:Q b
 ·have hr:r = []:=by
   cases r with
   | nil=>rfl
   | cons x l=>exact absurd (h.s 0 (by simp)) (hq b e _ _)
  subst hr
  exact ⟨bY h.lb hs,λj hj=>by simp at hj,λj hj=>by simp at hj,λj hj=>by simp at hj⟩
 ·exact h.blk hs (hb b h.lb e)
theorem dS.noS {base k:Nat} {A B:World} {Q:Nat->Prop} {v:Value} {rows:List (List Sv.Val)} (h:dS base k A v rows) (hq:∀ q,Q q->SV A q) (IN:∀ q,Q q->q<base) (hs:A.heap.size<=B.heap.size) (hb:∀ j,j<A.heap.size->¬ Q j->B.heap[j]?=A.heap[j]?):dS base k B v rows:=by
 rcases h with h | ⟨blk,c,e,h1,h2,hr⟩
 ·exact .inl h
 ·have eb:=hb blk h2 (λhx=>by have:=IN blk hx;omega)
  refine .inr ⟨blk,c,e,h1,by omega,λj hj=>?_⟩
  obtain ⟨u,p1,p2,p3,p4⟩:=hr j hj
  refine ⟨u,(fB (w:=A) (a:=⟨blk,0+j,none⟩) eb).trans p1,(wF (w:=A) (a:=⟨blk,0+j,none⟩) eb).trans p2,?_,p4⟩
  rcases p3 with p3 | ⟨b,o,c,e,hne,hv⟩
  ·exact .inl p3
  ·exact .inr ⟨b,o,c,e,hne,hv.noS hq hs hb⟩
def UP (D:Nat->Prop) (bb:Nat) (w:World) (T' : List Sp.Tb) (wd:Nat) (e a d c:Int) (rows:List (List Sv.Val)) (r:Ending) (w' : World):Prop:=
 ∃ rv tv',r = .returned (eZ e a d rv c)/\(j8 w' bb tv'/\cD D w' T' tv')/\dS w.heap.size wd w' rv rows/\Kept bb w w'
def Runs (T:List Sp.Tb) (s:wB) (T' : List Sp.Tb) (wd:Nat) (e a d c:Int) (rows:List (List Sv.Val)):Prop:=
 ∀ (C:Nat->Prop) (W:World) (tv v:Value) (lo hi:Nat),(∀ j,W.heap.size<=j->C j)->cD C W T tv->nM W s lo hi v->hi<=W.heap.size->
  Calls Tryz.prog 52 #[tv,v] W λr w3=>∃ va vn vc ra rn rc,r = .returned (.tuple #[.slice va vn vc,eZ e a d (.slice ra rn rc) c])/\(cD C w3 T' (.slice va vn vc)/\dS W.heap.size wd w3 (.slice ra rn rc) rows)/\RowKit.Below W.heap.size W w3
theorem Ro {bb lo hi:Nat} {T T' : List Sp.Tb} {s:wB} {wd:Nat} {e a d c:Int} {rows:List (List Sv.Val)} {tv v:Value} {wE w:World} {D:Nat->Prop} (hD:∀ j,w.heap.size<=j->D j) (UQ:¬ D bb) (hbb:j8 wE bb tv) (hbt:cD D wE T tv) (hE:RowKit.Below wE.heap.size wE w) (hV:nM w s lo hi v) (hlo:wE.heap.size<=lo) (hh:hi<=w.heap.size)
  (hs:okS 90000 s) (hnt:∀ z,s ≠ .trans z) (hck:(check T s).1.out=(0,0)) (htx:∀ w' : World,Sem.run Tryz.prog (Instr.typeAssert v 90 122 true) w' = .ok (.tuple #[.pointer none, .bool false]) w')
  (hR:Runs T (check T s).2 T' wd e a d c rows) :
  Calls Tryz.prog 38 #[.pointer (some ⟨bb,0,none⟩),v] w λr w'=>∃ rv tv',r = .returned (eZ e a d rv c)/\(j8 w' bb tv'/\cD D w' T' tv')/\dS wE.heap.size wd w' rv rows/\Kept bb wE w':=by
 obtain ⟨ta,tn,tc,rfl⟩:=hbt.sl
 obtain ⟨vt,va,rfl⟩:=zU hs hV
 have hbl:=hbb.lt
 have hsE:=hE.size
 have hz0:(res0 w).heap.size=w.heap.size+1:=by simp [res0]
 have b0:∀ j,j<w.heap.size->(res0 w).heap[j]?=w.heap[j]?:=λj hj=>kX _ _ _ hj
 have hBw:j8 w bb (.slice ta tn tc):=(hE.block bb hbl).trans hbb
 have hT0:sF wE.heap.size (res0 w) T (.slice ta tn tc):=hbt.Ol.low ⟨by omega,λj hj _=>(b0 j (by omega)).trans (hE.block j hj)⟩
 have hV0:nM (res0 w) s lo hi (.iface vt (.pointer va)):=nM.frame (by omega) hV (.inr ⟨_,_,rfl⟩) λu _ u2=>b0 u (by omega)
 refine (OJ (P:=λw1 tv' e' a' d' rv c' w3=>e'=e/\a'=a/\d'=d/\c'=c/\cD (λj=>D j/\j≠w.heap.size/\j≠w1.heap.size) w3 T' tv'/\dS (res0 w1).heap.size wd w3 rv rows/\Fc (res0 w).heap.size lo hi (res0 w) w1) htx hBw.bk ?_).mono ?_
 ·refine (check_any hs hnt hT0 hlo (by omega) hV0).mono ?_
  rintro r w1 ⟨rfl,hV1,hF⟩
  have hz1:=hF.size
  have hz2:(res0 w1).heap.size=w1.heap.size+1:=by simp [res0]
  have b1:∀ j,j<w1.heap.size->(res0 w1).heap[j]?=w1.heap[j]?:=λj hj=>kX _ _ _ hj
  have eB:w1.heap[bb]?=w.heap[bb]?:=(hF.block bb (by omega) (by omega) (by omega)).trans (b0 bb (by omega))
  refine ⟨by rw [hck];rfl,hBw.bk.same (by omega) eB,(Bk.new w #[.int .i64 0, .int .i64 0, .int .i64 0, .slice none 0 0, .int .i64 0] 56).same (by simpa using hz1) (hF.block _ (by omega) (by omega) (by omega)),?_⟩
  have Zg:cD (λj=>D j/\j≠w.heap.size/\j≠w1.heap.size) (res0 w1) T (.slice ta tn tc):=by
   refine (hbt.to λb h1 h2=>⟨h1,by omega,by omega⟩).blk (by omega) λb _ h2=>?_
   exact (b1 b (by omega)).trans ((hF.block b (by omega) (by omega) (by omega)).trans ((b0 b (by omega)).trans (hE.block b h2)))
  refine (hR (λj=>D j/\j≠w.heap.size/\j≠w1.heap.size) (res0 w1) _ _ lo hi (λj hj=>⟨hD j (by omega),by omega,by omega⟩) Zg (nM.frame (by omega) hV1 (.inr ⟨_,_,rfl⟩) λu _ u2=>b1 u (by omega)) (by omega)).mono ?_
  rintro r w3 ⟨va,vn,vc,ra,rn,rc,rfl,⟨h1,h2⟩,h3⟩
  exact ⟨va,vn,vc,e,a,d,ra,rn,rc,c,rfl,⟨rfl,rfl,rfl,rfl,h1,h2,hF⟩,h3⟩
 ·rintro r w' ⟨va,vn,vc,e',a',d',ra,rn,rc,c',w1,w3,rfl,⟨rfl,rfl,rfl,rfl,h1,h2,hF⟩,hw1,h3,rfl⟩
  have hz1:=hF.size
  have hz2:(res0 w1).heap.size=w1.heap.size+1:=by simp [res0]
  have hz3:=h3.size
  have b1:∀ j,j<w1.heap.size->(res0 w1).heap[j]?=w1.heap[j]?:=λj hj=>kX _ _ _ hj
  have e1:w3.heap[w1.heap.size]?=some (.cells #[.int .i64 0, .int .i64 0, .int .i64 0, .slice none 0 0, .int .i64 0] 56 (0,0)):=(h3.block _ (by omega)).trans (World.alloc_heap_new w1 _)
  have e2:w3.heap[w.heap.size]?=some (.cells #[.int .i64 0, .int .i64 0, .int .i64 0, .slice none 0 0, .int .i64 0] 56 (0,0)):=(h3.block _ (by omega)).trans ((b1 _ (by omega)).trans ((hF.block _ (by omega) (by omega) (by omega)).trans (World.alloc_heap_new w _)))
  have e3:j8 w3 bb (.slice ta tn tc):=(h3.block _ (by omega)).trans ((b1 _ (by omega)).trans ((hF.block _ (by omega) (by omega) (by omega)).trans ((b0 _ (by omega)).trans hBw)))
  have hk:∀ j,j≠bb->j≠w.heap.size->j≠w1.heap.size->(oX (oX (w3.setCell ⟨bb,0,none⟩ (.slice va vn vc)) w1.heap.size e' a' d' (.slice ra rn rc) c') w.heap.size e' a' d' (.slice ra rn rc) c').heap[j]?=w3.heap[j]?:=λj n1 n2 n3=>(cW n2 _ _ _ _ _).trans ((cW n3 _ _ _ _ _).trans (dQ _ _ _ _ n1))
  have hsz:(oX (oX (w3.setCell ⟨bb,0,none⟩ (.slice va vn vc)) w1.heap.size e' a' d' (.slice ra rn rc) c') w.heap.size e' a' d' (.slice ra rn rc) c').heap.size=w3.heap.size:=by simp [World.setCell]
  refine ⟨.slice ra rn rc, .slice va vn vc,rfl,⟨?_,?_⟩,?_,?_⟩
  ·exact (cW (by omega) _ _ _ _ _).trans ((cW (by omega) _ _ _ _ _).trans (e3.set _))
  ·exact (h1.blk (by omega) λb hb _=>hk b (λh=>UQ (h ▸ hb.1)) hb.2.1 hb.2.2).to λb hb _=>hb.1
  ·refine dS.lower (b:=(res0 w1).heap.size) (h2.noS (Q:=λq=>q=bb\/q=w.heap.size\/q=w1.heap.size) ?_ ?_ (by omega) (λj _ hn=>hk j (λh=>hn (.inl h)) (λh=>hn (.inr (.inl h))) (λh=>hn (.inr (.inr h))))) (by omega)
   ·rintro q (rfl | rfl | rfl)
    ·exact e3.noS
    ·exact p9 e2
    ·exact p9 e1
   ·rintro q (rfl | rfl | rfl) <;> omega
  ·refine ⟨?_,?_,?_,by omega,λj hj hn=>?_⟩
   ·simp only [Nn]
    exact h3.os.trans ((Kg _ _).trans (hF.os.trans ((Kg _ _).trans hE.os)))
   ·simp only [Fx]
    exact h3.tape.trans ((Ao _ _).trans (hF.tape.trans ((Ao _ _).trans hE.tape)))
   ·simp only [x9]
    exact h3.output.trans ((rE _ _).trans (hF.output.trans ((rE _ _).trans hE.output)))
   ·exact (hk j hn (by omega) (by omega)).trans ((h3.block j (by omega)).trans ((b1 j (by omega)).trans ((hF.block j (by omega) (by omega) (by omega)).trans ((b0 j (by omega)).trans (hE.block j hj)))))
theorem r9 {T:List Sp.Tb} {nm:Nm} {ns:List (Nm×Int)} {wd:Nat} (hn:ns.length<=50) (hs:(bz nm.1).size<=100000) (hs2:∀ x∈ns,(bz x.1.1).size<=100000) (hTl:T.length<=800) :
  Runs T (.create nm ns) (i8 ⟨nm.1,ns.map λx=>(x.1.1,x.2), []⟩ T) wd 0 0 0 0 []:=by
 intro C W tv v lo hi hC ht hV hh
 obtain ⟨p,rfl,hV⟩:=hV
 have hV':=hV
 obtain ⟨q,sl,rfl,_⟩:=hV'
 refine (Hl hC ht hV hh hn hs hs2 hTl).mono ?_
 rintro r w' ⟨v,rfl,⟨tv',rfl,h⟩,hb⟩
 obtain ⟨a,n,c,rfl⟩:=h.sl
 exact ⟨a,n,c,none,0,0,rfl,⟨h, .inl ⟨rfl,rfl⟩⟩,hb⟩
theorem OK {C:Nat->Prop} {W:World} {T:List Sp.Tb} {tv:Value} (ht:cD C W T tv):cD (λb=>(C b/\b<W.heap.size)\/W.heap.size+1<=b) (res0 W) T tv:=
 (ht.to λ_b h1 h2 => .inl ⟨h1,h2⟩).bel ((Gr.refl W).alloc (.cells #[.int .i64 0, .int .i64 0, .int .i64 0, .slice none 0 0, .int .i64 0] 56)).below
theorem gB (W:World):RowKit.Below W.heap.size W (res0 W):=((Gr.refl W).alloc (.cells #[.int .i64 0, .int .i64 0, .int .i64 0, .slice none 0 0, .int .i64 0] 56)).below
theorem oY {W w1:World} (hb:RowKit.Below (res0 W).heap.size (res0 W) w1) (a b c:Int) (v:Value) (d:Int):RowKit.Below W.heap.size W (oX w1 W.heap.size a b c v d):=
 kQ ((gB W).trans (hb.mono (gB W).size)) (aF _) _ _ _ _ _
theorem sA {T:List Sp.Tb} {t:Sp.Tb} {N a:Nat} {nm:Nm} {ns:List (Nat×Nd)} {wd:Nat} (hf:aG nm.1 T=some t) (Ww:t.rows.length+ns.length<=100) (hN:N<=90000) 
  (hw:∀ x∈ns,wf N x.2 .list/\1<=x.2.len/\x.2.len<=N/\plain x.2=true/\bd T x.2 []) (hTl:T.length<=800) :
  Runs T (.dH a nm ns) (i8 { t with rows:=t.rows++ns.map λx=>(Sp.rn T x.2 []).headD [] } T) wd 0 0 0 (ns.length:Nat) []:=by
 intro C W tv v lo hi hC ht hV hh
 obtain ⟨p,rfl,hV⟩:=hV
 have hV':=hV
 obtain ⟨q,sl,rfl,_⟩:=hV'
 obtain ⟨ta,tn,tc,rfl⟩:=ht.sl
 have hz:(res0 W).heap.size=W.heap.size+1:=by simp [res0]
 refine (Hk (P:=λtv' e a d rv c w3=>e=0/\a=0/\d=0/\rv = .slice none 0 0/\c=(ns.length:Nat)/\cD (λb=>(C b/\b<W.heap.size)\/W.heap.size+1<=b) w3 (i8 { t with rows:=t.rows++ns.map λx=>(Sp.rn T x.2 []).headD [] } T) tv') ?_).mono ?_
 ·refine (Cy (w:=res0 W) (λj hj => .inr (by omega)) (OK ht) hf (by omega) hN (hV.bel (gB W) hh) (by omega) (by omega) hw hTl).mono ?_
  rintro r w' ⟨v,rfl,⟨tv',h⟩,hb⟩
  rcases h with ⟨h,_⟩ | ⟨_,rfl,h⟩
  ·omega
  ·obtain ⟨va,vn,vc,rfl⟩:=h.sl
   exact ⟨va,vn,vc,_,_,_,none,0,0,_,rfl,⟨rfl,rfl,rfl,rfl,rfl,h⟩,hb⟩
 ·rintro r w' ⟨va,vn,vc,e,a,d,ra,rn,rc,c,w1,rfl,⟨rfl,rfl,rfl,Zh,rfl,hT⟩,hb,rfl⟩
  cases Zh
  exact ⟨va,vn,vc,none,0,0,rfl,⟨cD.oX hC hT, .inl ⟨rfl,rfl⟩⟩,oY hb _ _ _ _ _⟩
theorem Cz {di:Bool} {T:List Sp.Tb} {N st:Nat} {ex wh:Nd} {src:List (Nm×Nm)} {wd:Nat}
  (hN:N<=90000) (hw:wf N (.sel di st ex src wh) .query) (hp:plain (.sel di st ex src wh)=true) (hb:bd T (.sel di st ex src wh) []) (hT:Nk T) (hTc:∀ t∈T,t.cols.length<=50)
  (hs:src ≠ []) (hsl:src.length<=1000) (hpl:(aK (rowsOf T src)).length<=1000)
  (hwd:∀ tk∈aK (rowsOf T src),(cellsOf T ex tk []).length=wd) (hwb:wd<=100000) (hz1:ex = .none->Er T src=wd) (hz2:ex ≠ .none->ex.els.length=wd) :
  Runs T (.query (.sel di st ex src wh)) T wd 0 0 (wd:Nat) 0 (Sp.rn T (.sel di st ex src wh) []):=by
 intro C W tv v lo hi hC ht hV hh
 have hr:Rp W (.sel di st ex src wh) lo hi v:=hV
 obtain ⟨ta,tn,tc,rfl⟩:=ht.sl
 have hV2:=hr
 obtain ⟨b,xv,fv,wv,m1,m2,m3,m4,rfl,l1,l2,hS,hS2,hA,hI,hX,hF,hn,hR⟩:=hV2
 have hf:∀ x∈src,(aG x.1.1 T).isSome=true:=hb.1
 have hz:(res0 W).heap.size=W.heap.size+1:=by simp [res0]
 obtain ⟨blk,c,rfl,_,q1,q2,q3,q4⟩:∃ blk c,fv = .slice (some ⟨blk,0,none⟩) src.length c/\src ≠ []/\m2<=blk/\blk<m3/\blk<W.heap.size/\fX W blk 0 src:=by
  rcases hF with ⟨e,_⟩ | h
  ·exact absurd e hs
  ·exact h
 have hxl:ex ≠ .none->∃ g off cp,xv = .slice (some ⟨g,off,none⟩) wd cp:=by
  intro hne
  rcases hX with ⟨h,_⟩ | ⟨_,hX⟩
  ·exact absurd h hne
  ·obtain ⟨_,hex,_,hwh⟩:=hw
   have hex' : 1<=ex.len/\ex.len<=N/\wf N ex .list:=by
    rcases hex with h | h
    ·exact absurd h hne
    ·exact h
   obtain ⟨h1,h2,h3⟩:=hex'
   obtain ⟨e1,e2,e3⟩:=gK N ex h3
   have hz2:=hz2 hne
   generalize hns:ex.els=ns at *
   rw [e1] at hX
   obtain ⟨g,off,n,cp,rfl,hbl⟩:∃ g off n c,xv = .slice (some ⟨g,off,none⟩) n c/\g<W.heap.size:=by
    cases ns with
    | nil=>simp at e2;omega
    | cons n0 ns'=>
     simp only [gG,List.foldr_cons] at hX
     obtain ⟨blk,off,n,c,v,m1,m2,e,hl,_⟩:=hX
     exact ⟨blk,off,_,c,e,hl⟩
   obtain ⟨hnn,xs,Ep,hxs⟩:=Rp.els ns m1 m2 g off n cp hX
   exact ⟨g,off,cp,by rw [<- hz2,<- hnn]⟩
 refine (x8 (.inl rfl) (z:=(wd:Nat)) (P:=λv w1=>dS (W.heap.size+1) wd w1 v (Sp.rn T (.sel di st ex src wh) [])) ?_ ?_).mono ?_
 ·intro W' hb'
  have hs':=hb'.size
  have hA' : At W' b [.bool di, .int .i64 (st:Int),xv, .slice (some ⟨blk,0,none⟩) src.length c,wv]:=hA.same hb'.size (hb'.block b (by omega))
  apply x7
  by_cases hne:ex = .none
  ·obtain ⟨_,rfl⟩:ex = .none/\xv = .slice none 0 0:=by
    rcases hX with h | ⟨h,_⟩
    ·exact h
    ·exact absurd hne h
   have:=r7 hA' (ht.bel hb').Ol (fX.same (hb'.block blk q3) _ _ q4) (by omega) hsl hf hTc
   rw [hz1 hne] at this
   exact this
  ·obtain ⟨g,off,cp,rfl⟩:=hxl hne
   exact p8 hA'
 ·intro W' iv hb' hlt ha
  have hs':=hb'.size
  refine (J9 wd hN hw hp hb (ht.bel hb').Ol hT hTc ha ⟨by simp,λo lv h=>by simp at h⟩ (by simp) (hr.Ac hb' hh (by intro _ _ _ h;cases h)) (by omega) hs hsl hpl hwd hwb).mono ?_
  rintro r w' ⟨v,rfl,h1,h2⟩
  obtain ⟨a,c,rfl⟩:=h1.sl
  exact ⟨a,_,c,rfl,h1.lower (by omega),h2.below⟩
 ·rintro r w' ⟨a,n,c,w1,rfl,hP,hb1,rfl⟩
  have hz3:=hb1.size
  refine ⟨ta,tn,tc,a,n,c,rfl,⟨cD.oX hC ((OK ht).bel hb1),?_⟩,oY hb1 _ _ _ _ _⟩
  refine dS.lower (b:=W.heap.size+1) (hP.noS (Q:=λq=>q=W.heap.size) ?_ ?_ (by simp [World.setCell]) (λj _ hn=>cW hn _ _ _ _ _)) (by omega)
  ·rintro q rfl
   exact p9 (t:=56) ((hb1.block _ (by omega)).trans (World.alloc_heap_new W _))
  ·rintro q rfl
   omega
def Es (w:World):Prop:=VR w/\VM w
theorem Es.below {w w' : World} (h:Es w) (hb:RowKit.Below w.heap.size w w'):Es w':=by
 refine ⟨?_,h.2.below hb⟩
 obtain ⟨te,pe,h1,h2⟩:=h.1
 exact ⟨te,pe,(fB (w:=w) (a:=⟨1,0,none⟩) (hb.block 1 h2)).trans h1,bY h2 hb.size⟩
theorem Hm (v:Option Addr) (w:World):Sem.run Tryz.prog (Instr.typeAssert (.iface 160 (.pointer v)) 90 122 true) w = .ok (.tuple #[.pointer none, .bool false]) w:=by kernel_rfl
theorem L3 (v:Option Addr) (w:World):Sem.run Tryz.prog (Instr.typeAssert (.iface 163 (.pointer v)) 90 122 true) w = .ok (.tuple #[.pointer none, .bool false]) w:=by kernel_rfl
theorem yA (v:Option Addr) (w:World):Sem.run Tryz.prog (Instr.typeAssert (.iface 169 (.pointer v)) 90 122 true) w = .ok (.tuple #[.pointer none, .bool false]) w:=by kernel_rfl
theorem Hn (v:Option Addr) (w:World):Sem.run Tryz.prog (Instr.typeAssert (.iface 171 (.pointer v)) 90 122 true) w = .ok (.tuple #[.pointer none, .bool false]) w:=by kernel_rfl
theorem Ho (v:Option Addr) (w:World):Sem.run Tryz.prog (Instr.typeAssert (.iface 176 (.pointer v)) 90 122 true) w = .ok (.tuple #[.pointer none, .bool false]) w:=by kernel_rfl
theorem Hp (v:Option Addr) (w:World):Sem.run Tryz.prog (Instr.typeAssert (.iface 278 (.pointer v)) 90 122 true) w = .ok (.tuple #[.pointer none, .bool false]) w:=by kernel_rfl
theorem CA (v:Option Addr) (w:World):Sem.run Tryz.prog (Instr.typeAssert (.iface 280 (.pointer v)) 90 122 true) w = .ok (.tuple #[.pointer none, .bool false]) w:=by kernel_rfl
theorem Kh {w:World} {s:wB} {lo hi:Nat} {v:Value} (hs:okS 90000 s) (hnt:∀ z,s ≠ .trans z) (h:nM w s lo hi v) (w' : World):Sem.run Tryz.prog (Instr.typeAssert v 90 122 true) w' = .ok (.tuple #[.pointer none, .bool false]) w':=by
 cases s with
 | create t cols=>obtain ⟨p,rfl,q,sl,rfl,_⟩:=h;exact Hm _ _
 | drop t=>obtain ⟨q,rfl,_⟩:=h;exact L3 _ _
 | dH a t rows=>obtain ⟨p,rfl,q,sl,rfl,_⟩:=h;exact yA _ _
 | eO a t nd=>obtain ⟨p,rfl,q,sl,rfl,_⟩:=h;exact yA _ _
 | delete t wh=>obtain ⟨q,pv,rfl,_⟩:=h;exact Hn _ _
 | update t sets wh=>obtain ⟨p,rfl,q,sl,pv,mid,rfl,_⟩:=h;exact Ho _ _
 | trans z=>exact absurd rfl (hnt z)
 | query nd=>
  rcases uH h hs.1 with ⟨b,rfl⟩ | ⟨b,rfl⟩
  ·exact Hp _ _
  ·exact CA _ _
theorem Fy {bb:Nat} {T T' : List Sp.Tb} {st:wB} {wd:Nat} {e a d c:Int} {rows:List (List Sv.Val)} {tv:Value} {s:ByteArray} {w:World} {D:Nat->Prop} (hD:∀ j,w.heap.size<=j->D j) (UQ:¬ D bb) (hbb:j8 w bb tv) (hbt:cD D w T tv) (hr:Es w) (hs:s.size<=maxLen) (hp:parse s.data.toList=(0,0)) (ht:tree s.data.toList=st) (hnt:∀ z,st ≠ .trans z) (hok:okS 90000 st) (hck:(check T st).1.out=(0,0))
  (hR:Runs T (check T st).2 T' wd e a d c rows) :
  Calls Tryz.prog 26 #[.pointer (some ⟨bb,0,none⟩), .string s] w λr w'=>UP D bb w T' wd e a d c rows r w':=by
 have hbl:=hbb.lt
 have hz0:(res0 w).heap.size=w.heap.size+1:=by simp [res0]
 have WF:Hid (Es (res0 w)):=hr.below (gB w)
 have HB:Hid (j8 (res0 w) bb tv):=((gB w).block bb hbl).trans hbb
 have HT:Hid (cD (λj=>D j/\j≠w.heap.size) (res0 w) T tv):=(hbt.to λb h1 h2=>⟨h1,by omega⟩).bel (gB w)
 have HO:=hid hok
 have HP:=hid (zR s (res0 w) hs WF.out.1 WF.out.2)
 rw [hp,ht] at HP
 simp only [] at HP
 have HR:=hid hR
 have HN:=hid hnt
 have Pw:=hid hck
 clear hR hnt hck hok hbb hbt hr
 go_enter Tryz.func26,Tryz.ntmps26
 go_wp2_with fail
 refine HP.out.mono ?_
 rintro x w1 ⟨v,rfl,b1,hif,hV⟩
 have HV:=hid (hV trivial)
 obtain ⟨vt,va,rfl⟩:=zU HO.out HV.out
 have hz1:=b1.size
 have WG:=hid (Ro (D:=λj=>D j/\j≠w.heap.size) (λj hj=>⟨hD j (by omega),by omega⟩) (λh=>UQ h.1) HB.out HT.out b1 HV.out (aF _) (aF _) HO.out HN.out Pw.out (Kh HO.out HN.out HV.out) HR.out)
 have HB1:=hid b1
 clear hif hV b1 HP
 go_wp2_with fail
 refine WG.out.mono ?_
 rintro x w2 ⟨rv,tv',rfl,⟨h1,h2⟩,h3,h4⟩
 obtain ⟨ra,rc,rfl⟩:=h3.sl
 have eQ:w2.heap[w.heap.size]?=some (.cells #[.int .i64 0, .int .i64 0, .int .i64 0, .slice none 0 0, .int .i64 0] 56 (0,0)):=(h4.block _ (by omega) (by omega)).trans (World.alloc_heap_new w _)
 have KC:Hid (Bk w2 w.heap.size [.int .i64 0, .int .i64 0, .int .i64 0, .slice none 0 0, .int .i64 0]):=(Bk.new w #[.int .i64 0, .int .i64 0, .int .i64 0, .slice none 0 0, .int .i64 0] 56).same (by simpa using h4.size) (h4.block _ (by simp) (by omega))
 obtain ⟨⟨k0,k1,k2,k3,k4⟩,f0,f1,f2,f3,f4⟩:=KC.out.five
 have HE:=hid eQ
 have H1:=hid h1
 have H2:=hid h2
 have H3:=hid h3
 have H4:=hid h4
 clear h1 h2 h3 h4 eQ WG
 go_wp2_with fail
 refine cL (v:=eZ e a d (.slice ra rows.length rc) c) (by simp [results,Tryz.results26,go_sem,eZ, *]) rfl ⟨.slice ra rows.length rc,tv',rfl,⟨?_,?_⟩,?_,?_⟩
 ·exact (cW (by omega) _ _ _ _ _).trans H1.out
 ·exact (H2.out.blk (by simp [World.setCell]) λb hb _=>cW hb.2 _ _ _ _ _).to λb hb _=>hb.1
 ·refine dS.lower (b:=(res0 w).heap.size) (H3.out.noS (Q:=λq=>q=w.heap.size) ?_ ?_ (by simp [World.setCell]) (λj _ hn=>cW hn _ _ _ _ _)) (by omega)
  ·rintro q rfl
   exact p9 HE.out
  ·rintro q rfl
   omega
 ·have hz2:=H4.out.size
  refine ⟨?_,?_,?_,by simp [World.setCell];omega,λj hj hn=>?_⟩
  ·simp only [Nn]
   exact H4.out.os.trans (Kg _ _)
  ·simp only [Fx]
   exact H4.out.tape.trans (Ao _ _)
  ·simp only [x9]
   exact H4.out.output.trans (rE _ _)
  ·exact (cW (by omega) _ _ _ _ _).trans ((H4.out.block j (by omega) hn).trans ((gB w).block j hj))
theorem OL {w:World} : Calls Tryz.prog 32 #[] w λr w'=>∃ bb tv,r = .returned (.pointer (some ⟨bb,0,none⟩))/\Zf bb w' [] tv/\w.heap.size<=bb/\RowKit.Below w.heap.size w w':=by
 go_enter Tryz.func32,Tryz.ntmps32
 go_wp2_with fail
 exact cL (v := .pointer (some ⟨w.heap.size,0,none⟩)) (by simp [results,Tryz.results32,go_sem]) rfl ⟨w.heap.size, .slice none 0 0,rfl,⟨World.alloc_heap_new w _,⟨by simp, .inl ⟨rfl,rfl⟩⟩⟩,aF _,((Gr.refl w).alloc _).below⟩
namespace Sp
def cab:List (Bs×Int) := [([97],2),([98],3)]
def tt (R:List Row):Tb:=⟨[116],cab,R⟩
def uu (R:List Row):Tb:=⟨[117],cab,R⟩
def TU (R S:List Row) (T:List Tb):Prop:=T = [tt R,uu S]\/T = [uu S,tt R]
theorem TU.len {R S:List Row} {T:List Tb} (h:TU R S T):T.length<=800:=by rcases h with rfl | rfl <;> simp
theorem TU.ft {R S:List Row} {T:List Tb} (h:TU R S T):aG [116] T=some (tt R):=by rcases h with rfl | rfl <;> rfl
theorem TU.fu {R S:List Row} {T:List Tb} (h:TU R S T):aG [117] T=some (uu S):=by rcases h with rfl | rfl <;> rfl
theorem TU.wt {R S:List Row} {T:List Tb} (h:TU R S T) (Q:List Row):TU Q S (i8 (tt Q) T):=by rcases h with rfl | rfl <;> exact .inr rfl
theorem TU.wu {R S:List Row} {T:List Tb} (h:TU R S T) (Q:List Row):TU R Q (i8 (uu Q) T):=by rcases h with rfl | rfl <;> exact .inl rfl
def all (nm:Bs):Nd := .sel false 7 .none [((nm,14),nm,14)] .none
theorem Et:parse [99,114,101,97,116,101,32,116,97,98,108,101,32,116,32,40,97,32,105,110,116,44,32,98,32,116,101,120,116,41]=(0,0):=by kernel_rfl
theorem Eu:tree [99,114,101,97,116,101,32,116,97,98,108,101,32,116,32,40,97,32,105,110,116,44,32,98,32,116,101,120,116,41] = .create ([116],13) [(([97],16),2),(([98],23),3)]:=by kernel_rfl
theorem Ev:parse [99,114,101,97,116,101,32,116,97,98,108,101,32,117,32,40,97,32,105,110,116,44,32,98,32,116,101,120,116,41]=(0,0):=by kernel_rfl
theorem Ew:tree [99,114,101,97,116,101,32,116,97,98,108,101,32,117,32,40,97,32,105,110,116,44,32,98,32,116,101,120,116,41] = .create ([117],13) [(([97],16),2),(([98],23),3)]:=by kernel_rfl
theorem Ex:check [] (.create ([116],13) [(([97],16),2),(([98],23),3)])=(⟨0,0,false⟩, .create ([116],13) [(([97],16),2),(([98],23),3)]):=by kernel_rfl
theorem Ey (R:List Row):check [tt R] (.create ([117],13) [(([97],16),2),(([98],23),3)])=(⟨0,0,false⟩, .create ([117],13) [(([97],16),2),(([98],23),3)]):=by kernel_rfl
theorem uN {c:CS} {nm:Bs} {b:Tb} (hR:b.rows.length<=1000):c.note [[(nm,b)]]=c:=by
 unfold CS.note
 rw [if_neg]
 simp only [product,List.foldl_cons,List.foldl_nil]
 omega
def ins (nm:Bs) (va vb:Sv.Val):wB := .dH 7 (nm,12) [(21, .cons (.const va) (.cons (.const vb) .nil))]
def OM (va vb:Sv.Val):Prop:=((∃ n,va=⟨2,n,ByteArray.empty⟩)\/va=⟨0,0,ByteArray.empty⟩)/\((∃ s,vb=⟨3,0,s⟩)\/vb=⟨0,0,ByteArray.empty⟩)
theorem L4 {R S:List Row} {T:List Tb} (h:TU R S T) {va vb:Sv.Val} (hv:OM va vb):check T (ins [116] va vb)=(⟨0,0,false⟩,ins [116] va vb):=by
 obtain ⟨⟨n,rfl⟩ | rfl,⟨s,rfl⟩ | rfl⟩:=hv <;> rcases h with rfl | rfl <;> kernel_rfl
theorem L5 {R S:List Row} {T:List Tb} (h:TU R S T) {va vb:Sv.Val} (hv:OM va vb):check T (ins [117] va vb)=(⟨0,0,false⟩,ins [117] va vb):=by
 obtain ⟨⟨n,rfl⟩ | rfl,⟨s,rfl⟩ | rfl⟩:=hv <;> rcases h with rfl | rfl <;> kernel_rfl
theorem TU.ok {R S:List Row} {T:List Tb} (h:TU R S T) (hR:∀ r∈R,r.length=2) (hS:∀ r∈S,r.length=2):Nk T:=by
 intro t ht r hr
 rcases h with rfl | rfl <;> simp only [List.mem_cons,List.not_mem_nil,or_false] at ht <;> rcases ht with rfl | rfl
 ·exact hR r hr
 ·exact hS r hr
 ·exact hS r hr
 ·exact hR r hr
theorem TU.cols {R S:List Row} {T:List Tb} (h:TU R S T):∀ t∈T,t.cols.length<=50:=by
 intro t ht
 rcases h with rfl | rfl <;> simp only [List.mem_cons,List.not_mem_nil,or_false] at ht <;> rcases ht with rfl | rfl <;> simp [tt,uu,cab]
theorem fA {α:Type} (l:List α):aK [l]=l.map λr => [r]:=by
 simp only [aK,List.map_cons,List.map_nil]
 induction l with
 | nil=>rfl
 | cons x l ih=>rw [List.flatMap_cons,ih];rfl
end Sp
theorem Ez {R S:List Row} {T:List Sp.Tb} (h:TU R S T) (va vb:Sv.Val) (hl:R.length<100) {wd:Nat} : Runs T (ins [116] va vb) (i8 (Sp.tt (R ++ [[va,vb]])) T) wd 0 0 0 1 []:=
 sA (N:=90000) (nm:=([116],12)) (ns := [(21, .cons (.const va) (.cons (.const vb) .nil))]) h.ft (by simp [Sp.tt];omega) (by omega) (λx hx=>by
  rw [List.mem_singleton] at hx
  subst hx
  exact ⟨by simp [wf],by simp [Nd.len],by simp [Nd.len],rfl,trivial,trivial,trivial⟩) h.len
theorem EA {R S:List Row} {T:List Sp.Tb} (h:TU R S T) (va vb:Sv.Val) (hl:S.length<100) {wd:Nat} : Runs T (ins [117] va vb) (i8 (uu (S ++ [[va,vb]])) T) wd 0 0 0 1 []:=
 sA (N:=90000) (nm:=([117],12)) (ns := [(21, .cons (.const va) (.cons (.const vb) .nil))]) h.fu (by simp [uu];omega) (by omega) (λx hx=>by
  rw [List.mem_singleton] at hx
  subst hx
  exact ⟨by simp [wf],by simp [Nd.len],by simp [Nd.len],rfl,trivial,trivial,trivial⟩) h.len
theorem Ki {T:List Sp.Tb} {nm:Sp.Bs} {R:List Row} {b:Sp.Tb} (hf:aG nm T=some b) (hb:b.rows=R):Sp.rn T (Sp.all nm) []=aI R:=by
 unfold Sp.all
 rw [uM]
 congr 1
 simp only [rowsOf,List.map_cons,List.map_nil,hf,Option.getD_some,hb,Sp.fA,List.flatMap_map,holds,if_true,cellsOf,List.flatten_cons,List.flatten_nil,List.append_nil]
 clear hb
 induction R with
 | nil=>rfl
 | cons x l ih=>rw [List.flatMap_cons,ih];rfl
end Go.Proofs.YtgnncnhkgmhngaaGreatDoor
