import Derived.Test.YtgnncnhkgmhngaaGreatDoorJ47
set_option maxHeartbeats 4000000
set_option maxRecDepth 100000
namespace Go.Proofs.YtgnncnhkgmhngaaGreatDoor
open Go.RowKit Go.Sort
theorem sc_os (w:World) (a:Addr) (v:Value):(w.setCell a v).os=w.os:=rfl
theorem sc_tape (w:World) (a:Addr) (v:Value):(w.setCell a v).tape=w.tape:=rfl
theorem sc_output (w:World) (a:Addr) (v:Value):(w.setCell a v).output=w.output:=rfl
theorem al_os (w:World) (o:Obj):(w.alloc o).os=w.os:=rfl
theorem al_tape (w:World) (o:Obj):(w.alloc o).tape=w.tape:=rfl
theorem al_output (w:World) (o:Obj):(w.alloc o).output=w.output:=rfl
def BasB (w:World) (bb:Nat) (tv:Value):Prop:=w.heap[bb]?=some (.cells #[tv, .bool false, .slice none 0 0] 115 (0,0))
structure Bas (bb:Nat) (w:World) (T:List Sp.Tb) (tv:Value):Prop where
 blk:BasB w bb tv
 tbs:TbsC (·≠bb) w T tv
theorem BasB.lt {w:World} {bb:Nat} {tv:Value} (h:BasB w bb tv):bb<w.heap.size:=(Array.getElem?_eq_some_iff.1 h).1
theorem BasB.bk {w:World} {bb:Nat} {tv:Value} (h:BasB w bb tv):Bk w bb [tv, .bool false, .slice none 0 0]:=by
 have e:w.heap[bb]?=_:=h
 refine ⟨h.lt,fun j hj=>?_,fun j=>?_⟩
 ·match j,hj with
  | 0,_=>simp [World.cell?,e]
  | 1,_=>simp [World.cell?,e]
  | 2,_=>simp [World.cell?,e]
 ·simp [World.frozen?,e]
theorem BasB.set {w:World} {bb:Nat} {tv:Value} (h:BasB w bb tv) (tv' : Value):BasB (w.setCell ⟨bb,0,none⟩ tv') bb tv':=by
 obtain ⟨hlt,hk⟩:=Array.getElem?_eq_some_iff.1 h
 show (w.heap.modify bb _)[bb]?=_
 rw [Array.getElem?_eq_getElem (by rw [Array.size_modify];exact hlt),Array.getElem_modify_self,hk]
 rfl
def NoS (w:World) (q:Nat):Prop:=∀ o s,w.cell? ⟨q,o,none⟩≠some (.string s)
theorem BasB.noS {w:World} {bb:Nat} {ta:Option Addr} {tn tc:Nat} (h:BasB w bb (.slice ta tn tc)):NoS w bb:=by
 intro o s e
 have hb:w.heap[bb]?=_:=h
 simp only [World.cell?,hb] at e
 match o,e with
 | 0,e=>simp at e
 | 1,e=>simp at e
 | 2,e=>simp at e
 | o+3,e=>simp at e
theorem res_noS {w:World} {q:Nat} {t:TypeId} (h:w.heap[q]?=some (.cells #[.int .i64 0, .int .i64 0, .int .i64 0, .slice none 0 0, .int .i64 0] t (0,0))):NoS w q:=by
 intro o s e
 simp only [World.cell?,h] at e
 match o,e with
 | 0,e=>simp at e
 | 1,e=>simp at e
 | 2,e=>simp at e
 | 3,e=>simp at e
 | 4,e=>simp at e
 | o+5,e=>simp at e
theorem Hv.noS {A B:World} {Q:Nat->Prop} {b off:Nat} {r:List Sv.Val} (h:Hv A b off r) (hq:∀ q,Q q->NoS A q) (hs:A.heap.size<=B.heap.size) (hb:∀ j,j<A.heap.size->¬ Q j->B.heap[j]?=A.heap[j]?):Hv B b off r:=by
 by_cases e:Q b
 ·have hr:r = []:=by
   cases r with
   | nil=>rfl
   | cons x l=>exact absurd (h.s 0 (by simp)) (hq b e _ _)
  subst hr
  exact ⟨Nat.lt_of_lt_of_le h.lb hs,fun j hj=>by simp at hj,fun j hj=>by simp at hj,fun j hj=>by simp at hj⟩
 ·exact h.blk hs (hb b h.lb e)
theorem RsO.noS {base k:Nat} {A B:World} {Q:Nat->Prop} {v:Value} {rows:List (List Sv.Val)} (h:RsO base k A v rows) (hq:∀ q,Q q->NoS A q) (hqb:∀ q,Q q->q<base) (hs:A.heap.size<=B.heap.size) (hb:∀ j,j<A.heap.size->¬ Q j->B.heap[j]?=A.heap[j]?):RsO base k B v rows:=by
 rcases h with h | ⟨blk,c,e,h1,h2,hr⟩
 ·exact .inl h
 ·have eb:=hb blk h2 (fun hx=>by have:=hqb blk hx;omega)
  refine .inr ⟨blk,c,e,h1,by omega,fun j hj=>?_⟩
  obtain ⟨u,p1,p2,p3,p4⟩:=hr j hj
  refine ⟨u,(World.cell?_of_block (w:=A) (a:=⟨blk,0+j,none⟩) eb).trans p1,(World.frozen?_of_block (w:=A) (a:=⟨blk,0+j,none⟩) eb).trans p2,?_,p4⟩
  rcases p3 with p3 | ⟨b,o,c,e,hne,hv⟩
  ·exact .inl p3
  ·exact .inr ⟨b,o,c,e,hne,hv.noS hq hs hb⟩
def Ran (D:Nat->Prop) (bb:Nat) (w:World) (T' : List Sp.Tb) (wd:Nat) (e a d c:Int) (rows:List (List Sv.Val)) (r:Ending) (w' : World):Prop:=
 ∃ rv tv',r = .returned (enRes e a d rv c)/\(BasB w' bb tv'/\TbsC D w' T' tv')/\RsO w.heap.size wd w' rv rows/\Kept bb w w'
def Runs (T:List Sp.Tb) (s:Sp.Stm) (T' : List Sp.Tb) (wd:Nat) (e a d c:Int) (rows:List (List Sv.Val)):Prop:=
 ∀ (C:Nat->Prop) (W:World) (tv v:Value) (lo hi:Nat),(∀ j,W.heap.size<=j->C j)->TbsC C W T tv->StV W s lo hi v->hi<=W.heap.size->
  Calls Tryz.prog 52 #[tv,v] W fun r w3=>∃ va vn vc ra rn rc,r = .returned (.tuple #[.slice va vn vc,enRes e a d (.slice ra rn rc) c])/\(TbsC C w3 T' (.slice va vn vc)/\RsO W.heap.size wd w3 (.slice ra rn rc) rows)/\RowKit.Below W.heap.size W w3
theorem do_ok {bb lo hi:Nat} {T T' : List Sp.Tb} {s:Sp.Stm} {wd:Nat} {e a d c:Int} {rows:List (List Sv.Val)} {tv v:Value} {wE w:World} {D:Nat->Prop} (hD:∀ j,w.heap.size<=j->D j) (hDb:¬ D bb) (hbb:BasB wE bb tv) (hbt:TbsC D wE T tv) (hE:RowKit.Below wE.heap.size wE w) (hV:StV w s lo hi v) (hlo:wE.heap.size<=lo) (hh:hi<=w.heap.size)
  (hs:Sp.okS 90000 s) (hnt:∀ z,s ≠ .trans z) (hck:(Sp.check T s).1.out=(0,0)) (htx:∀ w' : World,Sem.run Tryz.prog (Instr.typeAssert v 90 122 true) w' = .ok (.tuple #[.pointer none, .bool false]) w')
  (hR:Runs T (Sp.check T s).2 T' wd e a d c rows) :
  Calls Tryz.prog 38 #[.pointer (some ⟨bb,0,none⟩),v] w fun r w'=>∃ rv tv',r = .returned (enRes e a d rv c)/\(BasB w' bb tv'/\TbsC D w' T' tv')/\RsO wE.heap.size wd w' rv rows/\Kept bb wE w':=by
 obtain ⟨ta,tn,tc,rfl⟩:=hbt.sl
 obtain ⟨vt,va,rfl⟩:=stv_if hs hV
 have hbl:=hbb.lt
 have hsE:=hE.size
 have hz0:(res0 w).heap.size=w.heap.size+1:=by simp [res0]
 have b0:∀ j,j<w.heap.size->(res0 w).heap[j]?=w.heap[j]?:=fun j hj=>Below.heap_alloc _ _ _ hj
 have hBw:BasB w bb (.slice ta tn tc):=(hE.block bb hbl).trans hbb
 have hT0:Tbs wE.heap.size (res0 w) T (.slice ta tn tc):=hbt.tbs.low ⟨by omega,fun j hj _=>(b0 j (by omega)).trans (hE.block j hj)⟩
 have hV0:StV (res0 w) s lo hi (.iface vt (.pointer va)):=StV.frame (by omega) hV (.inr ⟨_,_,rfl⟩) fun u _ u2=>b0 u (by omega)
 refine (do_any (P:=fun w1 tv' e' a' d' rv c' w3=>e'=e/\a'=a/\d'=d/\c'=c/\TbsC (fun j=>D j/\j≠w.heap.size/\j≠w1.heap.size) w3 T' tv'/\RsO (res0 w1).heap.size wd w3 rv rows/\Fc (res0 w).heap.size lo hi (res0 w) w1) htx hBw.bk ?_).mono ?_
 ·refine (check_any hs hnt hT0 hlo (by omega) hV0).mono ?_
  rintro r w1 ⟨rfl,hV1,hF⟩
  have hz1:=hF.size
  have hz2:(res0 w1).heap.size=w1.heap.size+1:=by simp [res0]
  have b1:∀ j,j<w1.heap.size->(res0 w1).heap[j]?=w1.heap[j]?:=fun j hj=>Below.heap_alloc _ _ _ hj
  have eB:w1.heap[bb]?=w.heap[bb]?:=(hF.block bb (by omega) (by omega) (by omega)).trans (b0 bb (by omega))
  refine ⟨by rw [hck];rfl,hBw.bk.same (by omega) eB,(Bk.new w #[.int .i64 0, .int .i64 0, .int .i64 0, .slice none 0 0, .int .i64 0] 56).same (by simpa using hz1) (hF.block _ (by omega) (by omega) (by omega)),?_⟩
  have hTC:TbsC (fun j=>D j/\j≠w.heap.size/\j≠w1.heap.size) (res0 w1) T (.slice ta tn tc):=by
   refine (hbt.to fun b h1 h2=>⟨h1,by omega,by omega⟩).blk (by omega) fun b _ h2=>?_
   exact (b1 b (by omega)).trans ((hF.block b (by omega) (by omega) (by omega)).trans ((b0 b (by omega)).trans (hE.block b h2)))
  refine (hR (fun j=>D j/\j≠w.heap.size/\j≠w1.heap.size) (res0 w1) _ _ lo hi (fun j hj=>⟨hD j (by omega),by omega,by omega⟩) hTC (StV.frame (by omega) hV1 (.inr ⟨_,_,rfl⟩) fun u _ u2=>b1 u (by omega)) (by omega)).mono ?_
  rintro r w3 ⟨va,vn,vc,ra,rn,rc,rfl,⟨h1,h2⟩,h3⟩
  exact ⟨va,vn,vc,e,a,d,ra,rn,rc,c,rfl,⟨rfl,rfl,rfl,rfl,h1,h2,hF⟩,h3⟩
 ·rintro r w' ⟨va,vn,vc,e',a',d',ra,rn,rc,c',w1,w3,rfl,⟨rfl,rfl,rfl,rfl,h1,h2,hF⟩,hw1,h3,rfl⟩
  have hz1:=hF.size
  have hz2:(res0 w1).heap.size=w1.heap.size+1:=by simp [res0]
  have hz3:=h3.size
  have b1:∀ j,j<w1.heap.size->(res0 w1).heap[j]?=w1.heap[j]?:=fun j hj=>Below.heap_alloc _ _ _ hj
  have e1:w3.heap[w1.heap.size]?=some (.cells #[.int .i64 0, .int .i64 0, .int .i64 0, .slice none 0 0, .int .i64 0] 56 (0,0)):=(h3.block _ (by omega)).trans (World.alloc_heap_new w1 _)
  have e2:w3.heap[w.heap.size]?=some (.cells #[.int .i64 0, .int .i64 0, .int .i64 0, .slice none 0 0, .int .i64 0] 56 (0,0)):=(h3.block _ (by omega)).trans ((b1 _ (by omega)).trans ((hF.block _ (by omega) (by omega) (by omega)).trans (World.alloc_heap_new w _)))
  have e3:BasB w3 bb (.slice ta tn tc):=(h3.block _ (by omega)).trans ((b1 _ (by omega)).trans ((hF.block _ (by omega) (by omega) (by omega)).trans ((b0 _ (by omega)).trans hBw)))
  have hk:∀ j,j≠bb->j≠w.heap.size->j≠w1.heap.size->(resW (resW (w3.setCell ⟨bb,0,none⟩ (.slice va vn vc)) w1.heap.size e' a' d' (.slice ra rn rc) c') w.heap.size e' a' d' (.slice ra rn rc) c').heap[j]?=w3.heap[j]?:=fun j n1 n2 n3=>(heap_set5 n2 _ _ _ _ _).trans ((heap_set5 n3 _ _ _ _ _).trans (Below.heap_setCell _ _ _ _ n1))
  have hsz:(resW (resW (w3.setCell ⟨bb,0,none⟩ (.slice va vn vc)) w1.heap.size e' a' d' (.slice ra rn rc) c') w.heap.size e' a' d' (.slice ra rn rc) c').heap.size=w3.heap.size:=by simp [World.setCell]
  refine ⟨.slice ra rn rc, .slice va vn vc,rfl,⟨?_,?_⟩,?_,?_⟩
  ·exact (heap_set5 (by omega) _ _ _ _ _).trans ((heap_set5 (by omega) _ _ _ _ _).trans (e3.set _))
  ·exact (h1.blk (by omega) fun b hb _=>hk b (fun h=>hDb (h ▸ hb.1)) hb.2.1 hb.2.2).to fun b hb _=>hb.1
  ·refine RsO.lower (b:=(res0 w1).heap.size) (h2.noS (Q:=fun q=>q=bb\/q=w.heap.size\/q=w1.heap.size) ?_ ?_ (by omega) (fun j _ hn=>hk j (fun h=>hn (.inl h)) (fun h=>hn (.inr (.inl h))) (fun h=>hn (.inr (.inr h))))) (by omega)
   ·rintro q (rfl | rfl | rfl)
    ·exact e3.noS
    ·exact res_noS e2
    ·exact res_noS e1
   ·rintro q (rfl | rfl | rfl) <;> omega
  ·refine ⟨?_,?_,?_,by omega,fun j hj hn=>?_⟩
   ·simp only [sc_os]
    exact h3.os.trans ((al_os _ _).trans (hF.os.trans ((al_os _ _).trans hE.os)))
   ·simp only [sc_tape]
    exact h3.tape.trans ((al_tape _ _).trans (hF.tape.trans ((al_tape _ _).trans hE.tape)))
   ·simp only [sc_output]
    exact h3.output.trans ((al_output _ _).trans (hF.output.trans ((al_output _ _).trans hE.output)))
   ·exact (hk j hn (by omega) (by omega)).trans ((h3.block j (by omega)).trans ((b1 j (by omega)).trans ((hF.block j (by omega) (by omega) (by omega)).trans ((b0 j (by omega)).trans (hE.block j hj)))))
theorem runs_create {T:List Sp.Tb} {nm:Sp.Nm} {ns:List (Sp.Nm×Int)} {wd:Nat} (hn:ns.length<=50) (hs:(bz nm.1).size<=100000) (hs2:∀ x∈ns,(bz x.1.1).size<=100000) (hTl:T.length<=800) :
  Runs T (.create nm ns) (Sp.withT ⟨nm.1,ns.map fun x=>(x.1.1,x.2), []⟩ T) wd 0 0 0 0 []:=by
 intro C W tv v lo hi hC ht hV hh
 obtain ⟨p,rfl,hV⟩:=hV
 have hV':=hV
 obtain ⟨q,sl,rfl,_⟩:=hV'
 refine (rs_create hC ht hV hh hn hs hs2 hTl).mono ?_
 rintro r w' ⟨v,rfl,⟨tv',rfl,h⟩,hb⟩
 obtain ⟨a,n,c,rfl⟩:=h.sl
 exact ⟨a,n,c,none,0,0,rfl,⟨h, .inl ⟨rfl,rfl⟩⟩,hb⟩
theorem resC {C:Nat->Prop} {W:World} {T:List Sp.Tb} {tv:Value} (ht:TbsC C W T tv):TbsC (fun b=>(C b/\b<W.heap.size)\/W.heap.size+1<=b) (res0 W) T tv:=
 (ht.to fun _b h1 h2 => .inl ⟨h1,h2⟩).bel ((Gr.refl W).alloc (.cells #[.int .i64 0, .int .i64 0, .int .i64 0, .slice none 0 0, .int .i64 0] 56)).below
theorem res_below (W:World):RowKit.Below W.heap.size W (res0 W):=((Gr.refl W).alloc (.cells #[.int .i64 0, .int .i64 0, .int .i64 0, .slice none 0 0, .int .i64 0] 56)).below
theorem resW_below {W w1:World} (hb:RowKit.Below (res0 W).heap.size (res0 W) w1) (a b c:Int) (v:Value) (d:Int):RowKit.Below W.heap.size W (resW w1 W.heap.size a b c v d):=
 below_set5 ((res_below W).trans (hb.mono (res_below W).size)) (Nat.le_refl _) _ _ _ _ _
theorem runs_insert {T:List Sp.Tb} {t:Sp.Tb} {N a:Nat} {nm:Sp.Nm} {ns:List (Nat×Sp.Nd)} {wd:Nat} (hf:Sp.findTb nm.1 T=some t) (hrN:t.rows.length+ns.length<=100) (hN:N<=90000) 
  (hw:∀ x∈ns,Sp.wf N x.2 .list/\1<=x.2.len/\x.2.len<=N/\Sp.plain x.2=true/\Sp.bd T x.2 []) (hTl:T.length<=800) :
  Runs T (.insertV a nm ns) (Sp.withT { t with rows:=t.rows++ns.map fun x=>(Sp.rn T x.2 []).headD [] } T) wd 0 0 0 (ns.length:Nat) []:=by
 intro C W tv v lo hi hC ht hV hh
 obtain ⟨p,rfl,hV⟩:=hV
 have hV':=hV
 obtain ⟨q,sl,rfl,_⟩:=hV'
 obtain ⟨ta,tn,tc,rfl⟩:=ht.sl
 have hz:(res0 W).heap.size=W.heap.size+1:=by simp [res0]
 refine (rs_insert (P:=fun tv' e a d rv c w3=>e=0/\a=0/\d=0/\rv = .slice none 0 0/\c=(ns.length:Nat)/\TbsC (fun b=>(C b/\b<W.heap.size)\/W.heap.size+1<=b) w3 (Sp.withT { t with rows:=t.rows++ns.map fun x=>(Sp.rn T x.2 []).headD [] } T) tv') ?_).mono ?_
 ·refine (rinsert_any (w:=res0 W) (fun j hj => .inr (by omega)) (resC ht) hf (by omega) hN (hV.bel (res_below W) hh) (by omega) (by omega) hw hTl).mono ?_
  rintro r w' ⟨v,rfl,⟨tv',h⟩,hb⟩
  rcases h with ⟨h,_⟩ | ⟨_,rfl,h⟩
  ·omega
  ·obtain ⟨va,vn,vc,rfl⟩:=h.sl
   exact ⟨va,vn,vc,_,_,_,none,0,0,_,rfl,⟨rfl,rfl,rfl,rfl,rfl,h⟩,hb⟩
 ·rintro r w' ⟨va,vn,vc,e,a,d,ra,rn,rc,c,w1,rfl,⟨rfl,rfl,rfl,hrv,rfl,hT⟩,hb,rfl⟩
  cases hrv
  exact ⟨va,vn,vc,none,0,0,rfl,⟨TbsC.resW hC hT, .inl ⟨rfl,rfl⟩⟩,resW_below hb _ _ _ _ _⟩
theorem runs_remove {T:List Sp.Tb} {t:Sp.Tb} {N:Nat} {nm:Sp.Nm} {wh:Sp.Nd} {wd:Nat} {lvs:List Sp.Lv} (hf:Sp.findTb nm.1 T=some t) (hN:N<=90000) (hp:Sp.plain wh=true) (hw:Sp.wf N wh .cl) (he:∀ r∈t.rows,Sp.Eo [[r]] lvs) (hbd:Sp.bd T wh lvs) (hTl:T.length<=800) :
  Runs T (.delete nm wh) (Sp.withT { t with rows:=t.rows.filter fun r=>!Sp.holds T wh [[r]] } T) wd 0 0 0 ((t.rows.length - (t.rows.filter fun r=>!Sp.holds T wh [[r]]).length:Nat)) []:=by
 intro C W tv v lo hi hC ht hV hh
 obtain ⟨q,pv,rfl,l1,l2,hA,hpt,hR⟩:=hV
 obtain ⟨ta,tn,tc,rfl⟩:=ht.sl
 have hz:(res0 W).heap.size=W.heap.size+1:=by simp [res0]
 have hH:=rh_main T N hN wh hp hw
 have hnp:NoSl pv:=by obtain ⟨a,rfl⟩:=hpt;intro _ _ _ h;cases h
 refine (rs_remove (P:=fun tv' e a d rv c w3=>e=0/\a=0/\d=0/\rv = .slice none 0 0/\c=((t.rows.length - (t.rows.filter fun r=>!Sp.holds T wh [[r]]).length:Nat))/\TbsC (fun b=>(C b/\b<W.heap.size)\/W.heap.size+1<=b) w3 (Sp.withT { t with rows:=t.rows.filter fun r=>!Sp.holds T wh [[r]] } T) tv') ?_).mono ?_
 ·refine (callsIn_wide.1 (rremove_in 6 (Nat.le_refl _) (w:=res0 W) (fun r=>Sp.holds T wh [[r]]) (fun j hj => .inr (by omega)) (resC ht) hf (hA.same (by omega) ((res_below W).block q (by omega))) hTl ?_)).mono ?_
  ·intro r hr A iv hbA haA
   have hbW:RowKit.Below W.heap.size W A:=(res_below W).trans (hbA.mono (res_below W).size)
   exact hH lo q _ pv iv [[r]] lvs A haA (he r hr) hbd (hR.belN hbW (by omega) hnp) (by have:=hbW.size;omega)
  ·rintro r w' ⟨v,rfl,⟨tv',rfl,h⟩,hb⟩
   obtain ⟨va,vn,vc,rfl⟩:=h.sl
   exact ⟨va,vn,vc,_,_,_,none,0,0,_,rfl,⟨rfl,rfl,rfl,rfl,rfl,h⟩,hb⟩
 ·rintro r w' ⟨va,vn,vc,e,a,d,ra,rn,rc,c,w1,rfl,⟨rfl,rfl,rfl,hrv,rfl,hT⟩,hb,rfl⟩
  cases hrv
  exact ⟨va,vn,vc,none,0,0,rfl,⟨TbsC.resW hC hT, .inl ⟨rfl,rfl⟩⟩,resW_below hb _ _ _ _ _⟩
theorem runs_select {T:List Sp.Tb} {N st:Nat} {ex wh:Sp.Nd} {src:List (Sp.Nm×Sp.Nm)} {wd:Nat}
  (hN:N<=90000) (hw:Sp.wf N (.sel false st ex src wh) .query) (hp:Sp.plain (.sel false st ex src wh)=true) (hb:Sp.bd T (.sel false st ex src wh) []) (hT:Sp.TOk T) (hTc:∀ t∈T,t.cols.length<=50)
  (hs:src ≠ []) (hsl:src.length<=1000) (hpl:(prods (Sp.rowsOf T src)).length<=1000)
  (hwd:∀ tk∈prods (Sp.rowsOf T src),(Sp.cellsOf T ex tk []).length=wd) (hwb:wd<=100000) (hz1:ex = .none->wdF T src=wd) (hz2:ex ≠ .none->ex.els.length=wd) :
  Runs T (.query (.sel false st ex src wh)) T wd 0 0 (wd:Nat) 0 (Sp.rn T (.sel false st ex src wh) []):=by
 intro C W tv v lo hi hC ht hV hh
 have hr:Rp W (.sel false st ex src wh) lo hi v:=hV
 obtain ⟨ta,tn,tc,rfl⟩:=ht.sl
 have hV2:=hr
 obtain ⟨b,xv,fv,wv,m1,m2,m3,m4,rfl,l1,l2,hS,hS2,hA,hI,hX,hF,hn,hR⟩:=hV2
 have hf:∀ x∈src,(Sp.findTb x.1.1 T).isSome=true:=hb.1
 have hz:(res0 W).heap.size=W.heap.size+1:=by simp [res0]
 obtain ⟨blk,c,rfl,_,q1,q2,q3,q4⟩:∃ blk c,fv = .slice (some ⟨blk,0,none⟩) src.length c/\src ≠ []/\m2<=blk/\blk<m3/\blk<W.heap.size/\Srcs W blk 0 src:=by
  rcases hF with ⟨e,_⟩ | h
  ·exact absurd e hs
  ·exact h
 have hxl:ex ≠ .none->∃ g off cp,xv = .slice (some ⟨g,off,none⟩) wd cp:=by
  intro hne
  rcases hX with ⟨h,_⟩ | ⟨_,hX⟩
  ·exact absurd h hne
  ·obtain ⟨_,hex,_,hwh⟩:=hw
   have hex' : 1<=ex.len/\ex.len<=N/\Sp.wf N ex .list:=by
    rcases hex with h | h
    ·exact absurd h hne
    ·exact h
   obtain ⟨h1,h2,h3⟩:=hex'
   obtain ⟨e1,e2,e3⟩:=els_lapp N ex h3
   have hz2:=hz2 hne
   generalize hns:ex.els=ns at *
   rw [e1] at hX
   obtain ⟨g,off,n,cp,rfl,hbl⟩:∃ g off n c,xv = .slice (some ⟨g,off,none⟩) n c/\g<W.heap.size:=by
    cases ns with
    | nil=>simp at e2;omega
    | cons n0 ns'=>
     simp only [Sp.lapp,List.foldr_cons] at hX
     obtain ⟨blk,off,n,c,v,m1,m2,e,hl,_⟩:=hX
     exact ⟨blk,off,_,c,e,hl⟩
   obtain ⟨hnn,xs,hel',hxs⟩:=Rp.els ns m1 m2 g off n cp hX
   exact ⟨g,off,cp,by rw [<- hz2,<- hnn]⟩
 refine (rs_select (z:=(wd:Nat)) (P:=fun v w1=>RsO (W.heap.size+1) wd w1 v (Sp.rn T (.sel false st ex src wh) [])) ?_ ?_).mono ?_
 ·intro W' hb'
  have hs':=hb'.size
  have hA' : At W' b [.bool false, .int .i64 (st:Int),xv, .slice (some ⟨blk,0,none⟩) src.length c,wv]:=hA.same hb'.size (hb'.block b (by omega))
  apply width_sel
  by_cases hne:ex = .none
  ·obtain ⟨_,rfl⟩:ex = .none/\xv = .slice none 0 0:=by
    rcases hX with h | ⟨h,_⟩
    ·exact h
    ·exact absurd hne h
   have:=swidth_star hA' (ht.bel hb').tbs (Srcs.same (hb'.block blk q3) _ _ q4) (by omega) hsl hf hTc
   rw [hz1 hne] at this
   exact this
  ·obtain ⟨g,off,cp,rfl⟩:=hxl hne
   exact swidth_exprs hA'
 ·intro W' iv hb' hlt ha
  have hs':=hb'.size
  refine (rq_sel wd hN hw hp hb (ht.bel hb').tbs hT hTc ha ⟨by simp,fun o lv h=>by simp at h⟩ (by simp) (hr.belN hb' hh (by intro _ _ _ h;cases h)) (by omega) hs hsl hpl hwd hwb).mono ?_
  rintro r w' ⟨v,rfl,h1,h2⟩
  obtain ⟨a,c,rfl⟩:=h1.sl
  exact ⟨a,_,c,rfl,h1.lower (by omega),h2.below⟩
 ·rintro r w' ⟨a,n,c,w1,rfl,hP,hb1,rfl⟩
  have hz3:=hb1.size
  refine ⟨ta,tn,tc,a,n,c,rfl,⟨TbsC.resW hC ((resC ht).bel hb1),?_⟩,resW_below hb1 _ _ _ _ _⟩
  refine RsO.lower (b:=W.heap.size+1) (hP.noS (Q:=fun q=>q=W.heap.size) ?_ ?_ (by simp [World.setCell]) (fun j _ hn=>heap_set5 hn _ _ _ _ _)) (by omega)
  ·rintro q rfl
   exact res_noS (t:=56) ((hb1.block _ (by omega)).trans (World.alloc_heap_new W _))
  ·rintro q rfl
   omega
def VRX (w:World):Prop:=VR w/\VM w
theorem VRX.below {w w' : World} (h:VRX w) (hb:RowKit.Below w.heap.size w w'):VRX w':=by
 refine ⟨?_,h.2.below hb⟩
 obtain ⟨te,pe,h1,h2⟩:=h.1
 exact ⟨te,pe,(World.cell?_of_block (w:=w) (a:=⟨1,0,none⟩) (hb.block 1 h2)).trans h1,Nat.lt_of_lt_of_le h2 hb.size⟩
theorem tx_Create (v:Option Addr) (w:World):Sem.run Tryz.prog (Instr.typeAssert (.iface 160 (.pointer v)) 90 122 true) w = .ok (.tuple #[.pointer none, .bool false]) w:=by kernel_rfl
theorem tx_Drop (v:Option Addr) (w:World):Sem.run Tryz.prog (Instr.typeAssert (.iface 163 (.pointer v)) 90 122 true) w = .ok (.tuple #[.pointer none, .bool false]) w:=by kernel_rfl
theorem tx_Insert (v:Option Addr) (w:World):Sem.run Tryz.prog (Instr.typeAssert (.iface 169 (.pointer v)) 90 122 true) w = .ok (.tuple #[.pointer none, .bool false]) w:=by kernel_rfl
theorem tx_Delete (v:Option Addr) (w:World):Sem.run Tryz.prog (Instr.typeAssert (.iface 171 (.pointer v)) 90 122 true) w = .ok (.tuple #[.pointer none, .bool false]) w:=by kernel_rfl
theorem tx_Update (v:Option Addr) (w:World):Sem.run Tryz.prog (Instr.typeAssert (.iface 176 (.pointer v)) 90 122 true) w = .ok (.tuple #[.pointer none, .bool false]) w:=by kernel_rfl
theorem tx_Select (v:Option Addr) (w:World):Sem.run Tryz.prog (Instr.typeAssert (.iface 278 (.pointer v)) 90 122 true) w = .ok (.tuple #[.pointer none, .bool false]) w:=by kernel_rfl
theorem tx_Combined (v:Option Addr) (w:World):Sem.run Tryz.prog (Instr.typeAssert (.iface 280 (.pointer v)) 90 122 true) w = .ok (.tuple #[.pointer none, .bool false]) w:=by kernel_rfl
theorem no_trans {w:World} {s:Sp.Stm} {lo hi:Nat} {v:Value} (hs:Sp.okS 90000 s) (hnt:∀ z,s ≠ .trans z) (h:StV w s lo hi v) (w' : World):Sem.run Tryz.prog (Instr.typeAssert v 90 122 true) w' = .ok (.tuple #[.pointer none, .bool false]) w':=by
 cases s with
 | create t cols=>obtain ⟨p,rfl,q,sl,rfl,_⟩:=h;exact tx_Create _ _
 | drop t=>obtain ⟨q,rfl,_⟩:=h;exact tx_Drop _ _
 | insertV a t rows=>obtain ⟨p,rfl,q,sl,rfl,_⟩:=h;exact tx_Insert _ _
 | insertQ a t nd=>obtain ⟨p,rfl,q,sl,rfl,_⟩:=h;exact tx_Insert _ _
 | delete t wh=>obtain ⟨q,pv,rfl,_⟩:=h;exact tx_Delete _ _
 | update t sets wh=>obtain ⟨p,rfl,q,sl,pv,mid,rfl,_⟩:=h;exact tx_Update _ _
 | trans z=>exact absurd rfl (hnt z)
 | query nd=>
  rcases rp_query h hs.1 with ⟨b,rfl⟩ | ⟨b,rfl⟩
  ·exact tx_Select _ _
  ·exact tx_Combined _ _
theorem exec_ok {bb:Nat} {T T' : List Sp.Tb} {st:Sp.Stm} {wd:Nat} {e a d c:Int} {rows:List (List Sv.Val)} {tv:Value} {s:ByteArray} {w:World} {D:Nat->Prop} (hD:∀ j,w.heap.size<=j->D j) (hDb:¬ D bb) (hbb:BasB w bb tv) (hbt:TbsC D w T tv) (hr:VRX w) (hs:s.size<=maxLen) (hp:Sp.parse s.data.toList=(0,0)) (ht:Sp.tree s.data.toList=st) (hnt:∀ z,st ≠ .trans z) (hok:Sp.okS 90000 st) (hck:(Sp.check T st).1.out=(0,0))
  (hR:Runs T (Sp.check T st).2 T' wd e a d c rows) :
  Calls Tryz.prog 26 #[.pointer (some ⟨bb,0,none⟩), .string s] w fun r w'=>Ran D bb w T' wd e a d c rows r w':=by
 have hbl:=hbb.lt
 have hz0:(res0 w).heap.size=w.heap.size+1:=by simp [res0]
 have HVR:Hid (VRX (res0 w)):=hr.below (res_below w)
 have HB:Hid (BasB (res0 w) bb tv):=((res_below w).block bb hbl).trans hbb
 have HT:Hid (TbsC (fun j=>D j/\j≠w.heap.size) (res0 w) T tv):=(hbt.to fun b h1 h2=>⟨h1,by omega⟩).bel (res_below w)
 have HO:=hid hok
 have HP:=hid (synParse_any s (res0 w) hs HVR.out.1 HVR.out.2)
 rw [hp,ht] at HP
 simp only [] at HP
 have HR:=hid hR
 have HN:=hid hnt
 have HCk:=hid hck
 clear hR hnt hck hok hbb hbt hr
 go_enter Tryz.func26,Tryz.ntmps26
 go_wp2_with fail
 refine HP.out.mono ?_
 rintro x w1 ⟨v,rfl,b1,hif,hV⟩
 have HV:=hid (hV trivial)
 obtain ⟨vt,va,rfl⟩:=stv_if HO.out HV.out
 have hz1:=b1.size
 have HDo:=hid (do_ok (D:=fun j=>D j/\j≠w.heap.size) (fun j hj=>⟨hD j (by omega),by omega⟩) (fun h=>hDb h.1) HB.out HT.out b1 HV.out (Nat.le_refl _) (Nat.le_refl _) HO.out HN.out HCk.out (no_trans HO.out HN.out HV.out) HR.out)
 have HB1:=hid b1
 clear hif hV b1 HP
 go_wp2_with fail
 refine HDo.out.mono ?_
 rintro x w2 ⟨rv,tv',rfl,⟨h1,h2⟩,h3,h4⟩
 obtain ⟨ra,rc,rfl⟩:=h3.sl
 have eQ:w2.heap[w.heap.size]?=some (.cells #[.int .i64 0, .int .i64 0, .int .i64 0, .slice none 0 0, .int .i64 0] 56 (0,0)):=(h4.block _ (by omega) (by omega)).trans (World.alloc_heap_new w _)
 have HBk:Hid (Bk w2 w.heap.size [.int .i64 0, .int .i64 0, .int .i64 0, .slice none 0 0, .int .i64 0]):=(Bk.new w #[.int .i64 0, .int .i64 0, .int .i64 0, .slice none 0 0, .int .i64 0] 56).same (by simpa using h4.size) (h4.block _ (by simp) (by omega))
 obtain ⟨⟨k0,k1,k2,k3,k4⟩,f0,f1,f2,f3,f4⟩:=HBk.out.five
 have HE:=hid eQ
 have H1:=hid h1
 have H2:=hid h2
 have H3:=hid h3
 have H4:=hid h4
 clear h1 h2 h3 h4 eQ HDo
 go_wp2_with fail
 refine bodyPost_ret (v:=enRes e a d (.slice ra rows.length rc) c) (by simp [results,Tryz.results26,go_sem,enRes, *]) rfl ⟨.slice ra rows.length rc,tv',rfl,⟨?_,?_⟩,?_,?_⟩
 ·exact (heap_set5 (by omega) _ _ _ _ _).trans H1.out
 ·exact (H2.out.blk (by simp [World.setCell]) fun b hb _=>heap_set5 hb.2 _ _ _ _ _).to fun b hb _=>hb.1
 ·refine RsO.lower (b:=(res0 w).heap.size) (H3.out.noS (Q:=fun q=>q=w.heap.size) ?_ ?_ (by simp [World.setCell]) (fun j _ hn=>heap_set5 hn _ _ _ _ _)) (by omega)
  ·rintro q rfl
   exact res_noS HE.out
  ·rintro q rfl
   omega
 ·have hz2:=H4.out.size
  refine ⟨?_,?_,?_,by simp [World.setCell];omega,fun j hj hn=>?_⟩
  ·simp only [sc_os]
   exact H4.out.os.trans (al_os _ _)
  ·simp only [sc_tape]
   exact H4.out.tape.trans (al_tape _ _)
  ·simp only [sc_output]
   exact H4.out.output.trans (al_output _ _)
  ·exact (heap_set5 (by omega) _ _ _ _ _).trans ((H4.out.block j (by omega) hn).trans ((res_below w).block j hj))
theorem new_ok {w:World} : Calls Tryz.prog 32 #[] w fun r w'=>∃ bb tv,r = .returned (.pointer (some ⟨bb,0,none⟩))/\Bas bb w' [] tv/\w.heap.size<=bb/\RowKit.Below w.heap.size w w':=by
 go_enter Tryz.func32,Tryz.ntmps32
 go_wp2_with fail
 exact bodyPost_ret (v := .pointer (some ⟨w.heap.size,0,none⟩)) (by simp [results,Tryz.results32,go_sem]) rfl ⟨w.heap.size, .slice none 0 0,rfl,⟨World.alloc_heap_new w _,⟨by simp, .inl ⟨rfl,rfl⟩⟩⟩,Nat.le_refl _,((Gr.refl w).alloc _).below⟩
namespace Sp
def cab:List (Bs×Int) := [([97],2),([98],3)]
def tt (R:List Row):Tb:=⟨[116],cab,R⟩
def uu (R:List Row):Tb:=⟨[117],cab,R⟩
def TU (R S:List Row) (T:List Tb):Prop:=T = [tt R,uu S]\/T = [uu S,tt R]
theorem TU.len {R S:List Row} {T:List Tb} (h:TU R S T):T.length<=800:=by rcases h with rfl | rfl <;> simp
theorem TU.ft {R S:List Row} {T:List Tb} (h:TU R S T):findTb [116] T=some (tt R):=by rcases h with rfl | rfl <;> rfl
theorem TU.fu {R S:List Row} {T:List Tb} (h:TU R S T):findTb [117] T=some (uu S):=by rcases h with rfl | rfl <;> rfl
theorem TU.wt {R S:List Row} {T:List Tb} (h:TU R S T) (Q:List Row):TU Q S (withT (tt Q) T):=by rcases h with rfl | rfl <;> exact .inr rfl
theorem TU.wu {R S:List Row} {T:List Tb} (h:TU R S T) (Q:List Row):TU R Q (withT (uu Q) T):=by rcases h with rfl | rfl <;> exact .inl rfl
def all (nm:Bs):Nd := .sel false 7 .none [((nm,14),nm,14)] .none
theorem p_create_t:parse [99,114,101,97,116,101,32,116,97,98,108,101,32,116,32,40,97,32,105,110,116,44,32,98,32,116,101,120,116,41]=(0,0):=by kernel_rfl
theorem t_create_t:tree [99,114,101,97,116,101,32,116,97,98,108,101,32,116,32,40,97,32,105,110,116,44,32,98,32,116,101,120,116,41] = .create ([116],13) [(([97],16),2),(([98],23),3)]:=by kernel_rfl
theorem p_create_u:parse [99,114,101,97,116,101,32,116,97,98,108,101,32,117,32,40,97,32,105,110,116,44,32,98,32,116,101,120,116,41]=(0,0):=by kernel_rfl
theorem t_create_u:tree [99,114,101,97,116,101,32,116,97,98,108,101,32,117,32,40,97,32,105,110,116,44,32,98,32,116,101,120,116,41] = .create ([117],13) [(([97],16),2),(([98],23),3)]:=by kernel_rfl
theorem p_sel_t:parse [115,101,108,101,99,116,32,42,32,102,114,111,109,32,116]=(0,0):=by kernel_rfl
theorem t_sel_t:tree [115,101,108,101,99,116,32,42,32,102,114,111,109,32,116] = .query (all [116]):=by kernel_rfl
theorem p_sel_u:parse [115,101,108,101,99,116,32,42,32,102,114,111,109,32,117]=(0,0):=by kernel_rfl
theorem t_sel_u:tree [115,101,108,101,99,116,32,42,32,102,114,111,109,32,117] = .query (all [117]):=by kernel_rfl
theorem c_create_t:check [] (.create ([116],13) [(([97],16),2),(([98],23),3)])=(⟨0,0,false⟩, .create ([116],13) [(([97],16),2),(([98],23),3)]):=by kernel_rfl
theorem c_create_u (R:List Row):check [tt R] (.create ([117],13) [(([97],16),2),(([98],23),3)])=(⟨0,0,false⟩, .create ([117],13) [(([97],16),2),(([98],23),3)]):=by kernel_rfl
theorem note_one {c:CS} {nm:Bs} {b:Tb} (hR:b.rows.length<=1000):c.note [[(nm,b)]]=c:=by
 unfold CS.note
 rw [if_neg]
 simp only [product,List.foldl_cons,List.foldl_nil]
 omega
theorem c_sel_t {R S:List Row} {T:List Tb} (h:TU R S T) (hR:R.length<=1000):check T (.query (all [116]))=(⟨0,0,false⟩, .query (all [116])):=by
 have e:check T (.query (all [116]))=(CS.note [[([116],tt R)]] ⟨0,0,false⟩, .query (all [116])):=by rcases h with rfl | rfl <;> kernel_rfl
 rw [e,note_one hR]
theorem c_sel_u {R S:List Row} {T:List Tb} (h:TU R S T) (hR:S.length<=1000):check T (.query (all [117]))=(⟨0,0,false⟩, .query (all [117])):=by
 have e:check T (.query (all [117]))=(CS.note [[([117],uu S)]] ⟨0,0,false⟩, .query (all [117])):=by rcases h with rfl | rfl <;> kernel_rfl
 rw [e,note_one hR]
def ins (nm:Bs) (va vb:Sv.Val):Stm := .insertV 7 (nm,12) [(21, .cons (.const va) (.cons (.const vb) .nil))]
def rowK (va vb:Sv.Val):Prop:=((∃ n,va=⟨2,n,ByteArray.empty⟩)\/va=⟨0,0,ByteArray.empty⟩)/\((∃ s,vb=⟨3,0,s⟩)\/vb=⟨0,0,ByteArray.empty⟩)
theorem c_ins_t {R S:List Row} {T:List Tb} (h:TU R S T) {va vb:Sv.Val} (hv:rowK va vb):check T (ins [116] va vb)=(⟨0,0,false⟩,ins [116] va vb):=by
 obtain ⟨⟨n,rfl⟩ | rfl,⟨s,rfl⟩ | rfl⟩:=hv <;> rcases h with rfl | rfl <;> kernel_rfl
theorem c_ins_u {R S:List Row} {T:List Tb} (h:TU R S T) {va vb:Sv.Val} (hv:rowK va vb):check T (ins [117] va vb)=(⟨0,0,false⟩,ins [117] va vb):=by
 obtain ⟨⟨n,rfl⟩ | rfl,⟨s,rfl⟩ | rfl⟩:=hv <;> rcases h with rfl | rfl <;> kernel_rfl
theorem TU.ok {R S:List Row} {T:List Tb} (h:TU R S T) (hR:∀ r∈R,r.length=2) (hS:∀ r∈S,r.length=2):TOk T:=by
 intro t ht r hr
 rcases h with rfl | rfl <;> simp only [List.mem_cons,List.not_mem_nil,or_false] at ht <;> rcases ht with rfl | rfl
 ·exact hR r hr
 ·exact hS r hr
 ·exact hS r hr
 ·exact hR r hr
theorem TU.cols {R S:List Row} {T:List Tb} (h:TU R S T):∀ t∈T,t.cols.length<=50:=by
 intro t ht
 rcases h with rfl | rfl <;> simp only [List.mem_cons,List.not_mem_nil,or_false] at ht <;> rcases ht with rfl | rfl <;> simp [tt,uu,cab]
theorem prods_one {α:Type} (l:List α):prods [l]=l.map fun r => [r]:=by
 simp only [prods,List.map_cons,List.map_nil]
 induction l with
 | nil=>rfl
 | cons x l ih=>rw [List.flatMap_cons,ih];rfl
end Sp
theorem runs_ins_t {R S:List Sp.Row} {T:List Sp.Tb} (h:Sp.TU R S T) (va vb:Sv.Val) (hl:R.length<100) {wd:Nat} : Runs T (Sp.ins [116] va vb) (Sp.withT (Sp.tt (R ++ [[va,vb]])) T) wd 0 0 0 1 []:=
 runs_insert (N:=90000) (nm:=([116],12)) (ns := [(21, .cons (.const va) (.cons (.const vb) .nil))]) h.ft (by simp [Sp.tt];omega) (by omega) (fun x hx=>by
  rw [List.mem_singleton] at hx
  subst hx
  exact ⟨by simp [Sp.wf],by simp [Sp.Nd.len],by simp [Sp.Nd.len],rfl,trivial,trivial,trivial⟩) h.len
theorem runs_ins_u {R S:List Sp.Row} {T:List Sp.Tb} (h:Sp.TU R S T) (va vb:Sv.Val) (hl:S.length<100) {wd:Nat} : Runs T (Sp.ins [117] va vb) (Sp.withT (Sp.uu (S ++ [[va,vb]])) T) wd 0 0 0 1 []:=
 runs_insert (N:=90000) (nm:=([117],12)) (ns := [(21, .cons (.const va) (.cons (.const vb) .nil))]) h.fu (by simp [Sp.uu];omega) (by omega) (fun x hx=>by
  rw [List.mem_singleton] at hx
  subst hx
  exact ⟨by simp [Sp.wf],by simp [Sp.Nd.len],by simp [Sp.Nd.len],rfl,trivial,trivial,trivial⟩) h.len
theorem rn_all {T:List Sp.Tb} {nm:Sp.Bs} {R:List Sp.Row} {b:Sp.Tb} (hf:Sp.findTb nm T=some b) (hb:b.rows=R):Sp.rn T (Sp.all nm) []=sortR R:=by
 unfold Sp.all
 rw [Sp.rn_sel]
 congr 1
 simp only [Sp.rowsOf,List.map_cons,List.map_nil,hf,Option.getD_some,hb,Sp.prods_one,List.flatMap_map,Sp.holds,if_true,Sp.cellsOf,List.flatten_cons,List.flatten_nil,List.append_nil]
 clear hb
 induction R with
 | nil=>rfl
 | cons x l ih=>rw [List.flatMap_cons,ih];rfl
theorem runs_all {T:List Sp.Tb} {nm:Sp.Bs} {R:List Sp.Row} {b:Sp.Tb} (hf:Sp.findTb nm T=some b) (hb:b.rows=R) (hc:b.cols=Sp.cab) (hT:Sp.TOk T) (hTc:∀ t∈T,t.cols.length<=50) (hl:R.length<=1000):Runs T (.query (Sp.all nm)) T 2 0 0 2 0 (sortR R):=by
 rw [<- rn_all hf hb]
 have e:Sp.rowsOf T [((nm,14),nm,14)] = [R]:=by simp [Sp.rowsOf,hf,hb]
 refine runs_select (N:=90000) (wd:=2) (by omega) ?_ rfl ?_ hT hTc (by simp) (by simp) ?_ ?_ (by omega) ?_ (fun h=>absurd rfl h)
 ·simp [Sp.wf]
 ·refine ⟨?_,?_,trivial,trivial⟩
  ·intro x hx
   rw [List.mem_singleton] at hx
   subst hx
   simp [hf]
  ·simp only [Sp.product,Sp.lvT,List.map_cons,List.map_nil,List.foldl_cons,List.foldl_nil,hf,Option.getD_some,hb]
   omega
 ·rw [e,Sp.prods_one]
  simpa using hl
 ·rw [e,Sp.prods_one]
  intro tk htk
  obtain ⟨r,hr,rfl⟩:=List.mem_map.1 htk
  have:=hT b (Sp.findTb_mem hf) r (by rw [hb];exact hr)
  rw [hc] at this
  simpa [Sp.cellsOf,Sp.cab] using this
 ·intro _
  simp [wdF,hf,hc,Sp.cab]
end Go.Proofs.YtgnncnhkgmhngaaGreatDoor
