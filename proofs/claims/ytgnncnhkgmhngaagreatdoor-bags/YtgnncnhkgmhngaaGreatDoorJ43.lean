import Derived.Test.YtgnncnhkgmhngaaGreatDoorJ42
set_option maxHeartbeats 4000000
set_option maxRecDepth 100000
namespace Go.Proofs.YtgnncnhkgmhngaaGreatDoor
open Sp
open Go.RowKit Go.Sort
attribute [local go_sem] Oper.semAt_some
theorem uX.Wp {base:Nat} {w:World} {v:Value} {vs:List Sv.Val} (h:uX base w v vs):gU (λb=>base<=b) w v vs:=by
 by_cases hne:vs = []
 ·subst hne
  have hb:=aB h
  obtain ⟨hl,h | ⟨g',cap,cur,hv,h0,hc,r⟩⟩:=h
  ·exact .inl ⟨h.1,rfl⟩
  ·subst hv
   exact .inr ⟨g',0,cap,rfl,h0,(hb g' rfl).2,λj hj=>by simp at hj,λj hj=>by simp at hj,λj hj=>by simp at hj⟩
 ·obtain ⟨b,c,e,hb,hv⟩:=h.hv hne
  exact .inr ⟨b,0,c,e,hb,hv⟩
def Uy (hd:List Row->Bool) (cl:List Row->Row) (k sb ob N:Nat) (w:World) (pre:List (List Value)) (A:World):Prop:=
 m7 (λb=>N<=b) w N (w.heap.size+2) ((pre.map (·.map (lB k w))).flatMap λtk=>if hd tk then [cl tk] else []) A/\A.cell? ⟨w.heap.size,0,none⟩=some (.pointer (some ⟨sb,0,none⟩))/\A.cell? ⟨w.heap.size+1,0,none⟩=some (.pointer (some ⟨ob,0,none⟩))
theorem Hv.other {A B:World} {q b off:Nat} {r:List Sv.Val} (h:Hv A b off r) (hq:∀ o k i,A.cell? ⟨q,o,none⟩≠some (.int k i)) (hs:A.heap.size<=B.heap.size) (hb:∀ j,j<A.heap.size->j≠q->B.heap[j]?=A.heap[j]?):Hv B b off r:=by
 by_cases e:b=q
 ·subst e
  have hr:r = []:=by
   cases r with
   | nil=>rfl
   | cons x l=>exact absurd (h.k 0 (by simp)) (hq _ _ _)
  subst hr
  exact ⟨bY h.lb hs,λj hj=>by simp at hj,λj hj=>by simp at hj,λj hj=>by simp at hj⟩
 ·exact h.blk hs (hb b h.lb e)
theorem dS.other {base k:Nat} {A B:World} {q:Nat} {v:Value} {rows:List (List Sv.Val)} (h:dS base k A v rows) (hq:∀ o k i,A.cell? ⟨q,o,none⟩≠some (.int k i)) (IN:q<base) (hs:A.heap.size<=B.heap.size) (hb:∀ j,j<A.heap.size->j≠q->B.heap[j]?=A.heap[j]?):dS base k B v rows:=by
 rcases h with h | ⟨blk,c,e,h1,h2,hr⟩
 ·exact .inl h
 ·have eb:=hb blk h2 (by omega)
  refine .inr ⟨blk,c,e,h1,by omega,λj hj=>?_⟩
  obtain ⟨u,p1,p2,p3,p4⟩:=hr j hj
  refine ⟨u,(fB (w:=A) (a:=⟨blk,0+j,none⟩) eb).trans p1,(wF (w:=A) (a:=⟨blk,0+j,none⟩) eb).trans p2,?_,p4⟩
  rcases p3 with p3 | ⟨b,o,c,e,hne,hv⟩
  ·exact .inl p3
  ·exact .inr ⟨b,o,c,e,hne,hv.other hq hs hb⟩
theorem dS.lower {b b' k:Nat} {w:World} {v:Value} {rows:List (List Sv.Val)} (h:dS b k w v rows) (hb:b'<=b):dS b' k w v rows:=by
 rcases h with h | ⟨blk,c,e,h1,h2,hr⟩
 ·exact .inl h
 ·exact .inr ⟨blk,c,e,by omega,h2,hr⟩
theorem dS.sl {base k:Nat} {A:World} {v:Value} {rows:List (List Sv.Val)} (h:dS base k A v rows):∃ a c,v = .slice a rows.length c:=by
 rcases h with ⟨e,h⟩ | ⟨blk,c,e,_⟩
 ·exact ⟨none,0,by rw [e];exact h⟩
 ·exact ⟨_,_,e⟩
theorem rY {A:World} {q:Nat} {t:TypeId} {a:Option Addr} {n c:Nat} (h:Boxed A q t (.slice a n c)):∀ o k i,A.cell? ⟨q,o,none⟩≠some (.int k i):=by
 intro o k i e
 have hb:A.heap[q]?=some (.cells #[.slice a n c] t (0,0)):=h
 simp only [World.cell?,hb] at e
 match o,e with
 | 0,e=>simp at e
 | o+1,e=>simp at e
theorem x6 {A:World} {q:Nat} {d:Option (List Deferred)} (h:A.heap[q]?=some (.deferred d)):∀ o k i,A.cell? ⟨q,o,none⟩≠some (.int k i):=by
 intro o k i e
 simp [World.cell?,h] at e
theorem sI.owned {base:Nat} {w:World} {v:Value} {xs:List Value} (o:w.ownsRow base 41 1 v xs.length xs):sI w v xs:=by
 have ho:=o
 have hb:=aB o
 obtain ⟨hl,h | ⟨g,cap,cur,hv,h0,hc,r⟩⟩:=o
 ·exact .inl ⟨h.1,Av h.2⟩
 ·subst hv
  exact .inr ⟨g,0,cap,rfl,(hb g rfl).2,λi hi=>by rw [Nat.zero_add];exact bO ho i _ (rI hi)⟩
theorem gF {F:Fence} {n:Nat} {P:Program} {ops:Array Oper} {o:Oper} {a:Act} {w:World} {K:Act->World->Prop} {Q:Exit->Act->World->Prop} {E:Prop} {t ty:TypeId} {v u v' : Value} {w' : World} (hap:(Builtin.append_ #[t,t] ty #[v,u]).run P w = .ok v' w') (s x:Operand) (hgd:o.guard=none)
  (ho:o.op = .call { callee := .builtin .append,args:=#[s,x],argTypes:=#[t,t] }) (hty:o.type=ty) (hs:a.eval s=v) (hx:a.eval x=u) (h:K (a.put o.dst v') w') :
  if Region.wanted o (yielded ops a.tmps)=true then Oper.wpIn F n P o a w K Q else E:=by
 subst hty
 have hw:Region.wanted o (yielded ops a.tmps)=true:=by simp [Region.wanted,hgd]
 rw [if_pos hw]
 unfold Oper.wpIn
 refine ⟨?_,?_⟩
 ·simp [Oper.about,ho,resolve,Target.leads,Sem.run_pure]
 ·rw [Oper.semAt_plain F _ _ (by rw [ho];intro c hc';cases hc')]
  simp [execOp,ho,resolve,invoke,builtin,hs,hx,hap,Result.andThen]
  exact h
theorem cell_lt {w:World} {b o:Nat} {v:Value} (h:w.cell? ⟨b,o,none⟩=some v):b<w.heap.size:=by
 rcases Nat.lt_or_ge b w.heap.size with h' | h'
 ·exact h'
 ·simp [World.cell?,Array.getElem?_eq_none h'] at h
theorem oW {w A A3 A5:World} {N:Nat} {v:Value} {xs:List Value} {R0:List (List Sv.Val)} {vals:List Sv.Val} {ua:Option Addr} {uc:Nat} (bx:Boxed A (w.heap.size+2) 32 v) (ox:A.ownsRow N 41 1 v xs.length xs) (ax:Al (gU (λb=>N<=b/\some b≠v.ownBlock) A) xs R0) (bel:RowKit.Below w.heap.size w A) (hsz:N<=A.heap.size) (hxl:xs.length<=1000) (hN:w.heap.size+2<N)
  (g3:RowKit.Below A.heap.size A A3) (hz3:A.heap.size<=A3.heap.size) (bu:RowKit.Below A3.heap.size A3 A5) (ou:uX A3.heap.size A5 (.slice ua vals.length uc) vals)
  (i0:TypeInfo) (ji:Tryz.prog.info? 41=some i0) (fR:i0.zero=some (.slice none 0 0)) (jz1:i0.size=1) (fS:i0.bytes=24) :
  A5.cell? ⟨w.heap.size+2,0,none⟩=some v/\∃ g' c' W4,Hid (m7 (λb=>N<=b) w N (w.heap.size+2) (R0 ++ [vals]) (W4.setCell ⟨w.heap.size+2,0,none⟩ (.slice (some ⟨g',0,none⟩) (xs.length+1) c'))/\Fr (λk=>k<N/\k≠w.heap.size+2) A (W4.setCell ⟨w.heap.size+2,0,none⟩ (.slice (some ⟨g',0,none⟩) (xs.length+1) c')))/\
   (Builtin.append_ #[32,32] 32 #[v, .slice (some ⟨A5.heap.size,0,none⟩) 1 1]).run Tryz.prog (A5.alloc (.cells #[.slice ua vals.length uc] 41)) = .ok (.slice (some ⟨g',0,none⟩) (xs.length+1) c') W4/\W4.cell? ⟨w.heap.size+2,0,none⟩=some v/\W4.frozen? ⟨w.heap.size+2,0,none⟩=false:=by
 have yZ:RowKit.Below A.heap.size A A5:=g3.trans (bu.mono hz3)
 have rM:A.heap.size<=A5.heap.size:=yZ.size
 have hrw:gU (λb=>N<=b/\some b≠v.ownBlock) A5 (.slice ua vals.length uc) vals:=ou.Wp.to λb hb _=>⟨by omega,λe=>by have:=(aB ox b e.symm).2;omega⟩
 have ho:(A5.alloc (.cells #[.slice ua vals.length uc] 41)).ownsRow N 41 1 v xs.length xs:=aH (aH ox yZ) ((Gr.refl A5).alloc _).below
 obtain ⟨g',c',W4,hap,hown,hgrow,hat,_⟩:=run_append_lies (P:=Tryz.prog) (A5.alloc (.cells #[.slice ua vals.length uc] 41)) 32 32 N 41 i0 (.slice none 0 0) 1 24 Tryz.underlying32 ji fR jz1 fS rfl (by decide) v xs.length xs ho ⟨A5.heap.size,0,none⟩ 1 1 [.slice ua vals.length uc] rfl (Cb _ _ _) (hU _ _ _) (by omega) (by unfold maxLen;omega) (by omega) (by simp;omega) (A5.heap.size+1) (by simp)
 obtain ⟨p1,p2,p3⟩:=m7.push (D:=λb=>N<=b) (by omega) hN (λb hb=>by omega) hsz bel bx ox ax yZ hrw hown hgrow hat
 have YQ:Boxed A5 (w.heap.size+2) 32 v:=(yZ.block _ bx.lt).trans bx
 exact ⟨YQ.cell,g',c',W4,⟨p2,p3⟩,hap,p1.cell,p1.frozen⟩
theorem uL {α β:Type} (f:α->List β):∀ l:List α,(∀ a,(f a).length<=1)->(l.flatMap f).length<=l.length
 | [],_=>by simp
 | a::l,h=>by have:=uL f l h;have:=h a;simp only [List.flatMap_cons,List.length_append,List.length_cons];omega
theorem Ai (n:Nat) (hn:6<=n) {k sb st blk c wd:Nat} {T:List Sp.Tb} {src:List (Nm×Nm)} {xv wv tv ov:Value} {env:List (List Row)} {w:World} (hd:List Row->Bool) (cl:List Row->Row)
  {di:Bool} (hs:At w sb [.bool di, .int .i64 (st:Int),xv, .slice (some ⟨blk,0,none⟩) src.length c,wv]) (ha:pW w tv env ov) (ht:sF k w T tv)
  (hsr:fX w blk 0 src) (hb:blk<w.heap.size) (hne:src ≠ []) (hm:src.length<=1000) (hf:∀ x∈src,(aG x.1.1 T).isSome=true) (hpl:(aK (rowsOf T src)).length<=1000)
  (hX:∀ tk∈aK (rowsOf T src),∀ (A:World) (iv:Value),RowKit.Below w.heap.size w A->pW A tv (tk::env) iv->Calls Tryz.prog 150 #[wv,iv] A λe A'=>e = .returned (.bool (hd tk))/\Gr A A')
  (hY:∀ tk∈aK (rowsOf T src),∀ (A:World) (iv:Value),RowKit.Below w.heap.size w A->pW A tv (tk::env) iv->Calls Tryz.prog 197 #[.pointer (some ⟨sb,0,none⟩),iv] A λe A'=>∃ gf lb,e = .returned (.func (.func gf) #[] lb)/\J3 A A' (.func (.func gf) #[] lb) (cl tk)/\Gr A A')
  (hwd:∀ tk∈aK (rowsOf T src),(cl tk).length=wd) (hwb:wd<=100000) :
  CallsIn Fence.wide n Tryz.prog 154 #[.pointer (some ⟨sb,0,none⟩),ov] w λe W'=>∃ v,e = .returned v/\dS w.heap.size wd W' v (if di then once (aI ((aK (rowsOf T src)).flatMap λtk=>if hd tk then [cl tk] else [])) else aI ((aK (rowsOf T src)).flatMap λtk=>if hd tk then [cl tk] else []))/\RowKit.Below w.heap.size w W':=by
 have h1:1<=n:=by omega
 have hro:Fence.wide.round=none:=rfl
 have hfn:∀ k,Fence.wide.fn k:=λ_=>trivial
 have b0:=hs.k0
 have b3:=hs.k3
 have b4:=hs.k4
 have hsw:=hs.1
 obtain ⟨ob,rfl,hob,hoc⟩:=ha.ptr
 have HA:=hid ha
 have Wq:=hid ht
 have HX:=hid hX
 have YR:=hid hwd
 have HY:=hid hY
 -- the three boxes
 obtain ⟨w0,hw0⟩:∃ w0,w0=((w.alloc (.cells #[.pointer (some ⟨sb,0,none⟩)] 278)).alloc (.cells #[.pointer (some ⟨ob,0,none⟩)] 195)).alloc (.cells #[.slice none 0 0] 32):=⟨_,rfl⟩
 have G0:Hid (Gr w w0):=by show Gr _ _;rw [hw0];exact (((Gr.refl w).alloc _).alloc _).alloc _
 have hz0:w0.heap.size=w.heap.size+3:=by rw [hw0];simp
 have x0:w0.cell? ⟨w.heap.size,0,none⟩=some (.pointer (some ⟨sb,0,none⟩)):=by
  rw [hw0];exact ((((Gr.refl _).alloc _).alloc _).cell (p:=⟨w.heap.size,0,none⟩) (by simp)).trans (by simp)
 have x1:w0.cell? ⟨w.heap.size+1,0,none⟩=some (.pointer (some ⟨ob,0,none⟩)):=by
  rw [hw0]
  refine (((Gr.refl _).alloc _).cell (p:=⟨w.heap.size+1,0,none⟩) (by simp)).trans ?_
  have h:=oZ (w.alloc (.cells #[.pointer (some ⟨sb,0,none⟩)] 278)) #[.pointer (some ⟨ob,0,none⟩)] 195 0
  rw [World.size_alloc] at h
  exact h
 have B2:Hid (Boxed w0 (w.heap.size+2) 32 (.slice none 0 0)):=by
  show Boxed _ _ _ _
  have h:=Boxed.new ((w.alloc (.cells #[.pointer (some ⟨sb,0,none⟩)] 278)).alloc (.cells #[.pointer (some ⟨ob,0,none⟩)] 195)) 32 (.slice none 0 0)
  rw [<- hw0] at h
  simpa using h
 have y0:=(G0.out.cell (p:=⟨ob,0,none⟩) hob).trans hoc
 have y3:=(G0.out.cell (p:=⟨sb,3,none⟩) hsw).trans b3
 have YS:=hid (vU (c:=c) ht (Low.dZ G0.out.drew) (hsr.same (G0.out.drew.below.block blk hb) _ _) (bY hb G0.out.drew.size) hne hm hf)
 refine callsIn_of_wp_marks Tryz.func154 rfl (hfn _) ?_ hro
 simp only [Tryz.ntmps154,List.size_toArray,List.length_cons,List.length_nil,Nat.reduceAdd,Nat.reduceSub,Array.replicate_succ,Array.replicate_zero,List.push_toArray,List.append_toArray,List.nil_append,List.cons_append]
 gi_wp2
 rw [<- hw0]
 clear hw0
 refine wpIn_wide.2 ?_
 have Wr : w0.drew.cell? ⟨w.heap.size,0,none⟩=some (.pointer (some ⟨sb,0,none⟩)):=x0
 have Ws : w0.drew.cell? ⟨w.heap.size+1,0,none⟩=some (.pointer (some ⟨ob,0,none⟩)):=x1
 have y0' : w0.drew.cell? ⟨ob,0,none⟩=some tv:=y0
 have Wt : w0.drew.cell? ⟨sb,3,none⟩=some (.slice (some ⟨blk,0,none⟩) src.length c):=y3
 obtain ⟨YT,YU,YV,Sg⟩:∃ a n c,tv = .slice a n c:=by
  rcases Wq.out.2.2 with ⟨_,e⟩ | ⟨b,off,c,V,e,_⟩
  ·exact ⟨_,_,_,e⟩
  ·exact ⟨_,_,_,e⟩
 clear hs ha ht hX hY hoc hwd
 subst Sg
 go_region_held3 (λw'=>w'.cell? ⟨w.heap.size,0,none⟩=some (.pointer (some ⟨sb,0,none⟩))/\w'.cell? ⟨w.heap.size+1,0,none⟩=some (.pointer (some ⟨ob,0,none⟩))/\w'.cell? ⟨ob,0,none⟩=some (.slice YT YU YV)/\w'.cell? ⟨sb,3,none⟩=some (.slice (some ⟨blk,0,none⟩) src.length c)) (first | (with_reducible exact ⟨Wr,Ws,y0',Wt⟩) | (with_reducible exact ⟨x0,x1,y0,y3⟩) | (with_reducible exact ⟨u0,u1,u2,u3⟩) | go_keep) (first | (go_at_call 196;refine YS.out.mono ?_;rintro e1 w1 ⟨v1,rfl,⟨Bt,tb,tc,vs,rfl,hBt,hBc,⟨htz,htb⟩,RZ,hal⟩,hb1⟩;have u0:=(hb1.cell (p:=⟨w.heap.size,0,none⟩) (by show w.heap.size<w0.heap.size;omega)).trans Wr;have u1:=(hb1.cell (p:=⟨w.heap.size+1,0,none⟩) (by show w.heap.size+1<w0.heap.size;omega)).trans Ws;have u2:=(hb1.cell (p:=⟨ob,0,none⟩) (by show ob<w0.heap.size;omega)).trans y0';have u3:=(hb1.cell (p:=⟨sb,3,none⟩) (by show sb<w0.heap.size;omega)).trans Wt))
 have AD:Hid (RowKit.Below w.heap.size w w1):=(G0.out.drew.below).trans (hb1.mono G0.out.drew.size)
 have Uz:=hid hal
 have YW:=hid RZ
 have QX:Hid (Boxed w1 (w.heap.size+2) 32 (.slice none 0 0)):=(hb1.block (w.heap.size+2) (by show w.heap.size+2<w0.heap.size;omega)).trans B2.out
 have hz1:w.heap.size+3<=w1.heap.size:=by have:=hb1.size;have:w0.heap.size<=w1.heap.size:=this;omega
 clear hal RZ hb1
 have YX : w.heap.size+3<=tb:=by have:w0.heap.size<=tb:=htz;omega
 have hk:k<=w.heap.size:=Wq.out.2.1
 obtain ⟨tabs,hT1,hT2⟩:=Fu hk Uz.out
 have hlt:tabs.length=src.length:=hT1.len.symm.trans Uz.out.len
 have UA:=hid (xV hT2)
 have HP:Hid (aK (rowsOf T src)=(aK tabs).map (·.map (lB k w))):=by show _=_;rw [<- UA.out,xU]
 have Q8:Tabs (λj=>(j<w1.heap.size+3/\j≠w.heap.size+2)/\j≠w1.heap.size+2) w1 tb 0 tabs:=by
  refine ⟨htb,⟨⟨by omega,by omega⟩,by omega⟩,λi hi=>?_⟩
  have hiv:i<vs.length:=by rw [hT1.len];exact hi
  refine ⟨vs[i],by rw [Nat.zero_add];exact YW.out i hiv,?_⟩
  rcases hT1.get i hiv hi with h | ⟨b,o,c,e,hb',hbk,hcell⟩
  ·exact .inl h
  ·exact .inr ⟨b,o,c,e,by have:=AD.out.size;omega,⟨⟨by have:=AD.out.size;omega,by omega⟩,by have:=AD.out.size;omega⟩,λj hj=>(AD.out.cell (p:=⟨b,o+j,none⟩) hb').trans (hcell j hj)⟩
 have hrows:∀ t∈tabs,t.length<=100000/\∀ r∈t,∃ a l c,r = .slice a l c:=by
  intro t YY
  obtain ⟨i,hi,rfl⟩:=List.mem_iff_getElem.1 YY
  have hiv:i<vs.length:=by rw [hT1.len];exact hi
  have h2:=hT2.get i hi (by rw [<- hT2.len];exact hi)
  refine ⟨?_,λr hr=>?_⟩
  ·rw [h2.len]
   have his:i<src.length:=by omega
   obtain ⟨t,V,_,e,h3⟩:=Uz.out.get i hiv his
   simp only [rowsOf,List.getElem_map,e,Option.getD_some]
   have:=h3.Dg
   omega
  ·obtain ⟨q,_,hq⟩:=h2.Oj hr
   rcases hq with ⟨e,_⟩ | ⟨b,o,c,e,_⟩
   ·exact ⟨_,_,_,e⟩
   ·exact ⟨_,_,_,e⟩
 have Q9:(aK tabs).length<=1000:=by have h:=hpl;rw [HP.out,List.length_map] at h;exact h
 have hmp:0<tabs.length:=by rw [hlt];exact List.length_pos_iff.2 hne
 have UB : w1.cell? ⟨Bt,0,none⟩=some (.slice (some ⟨tb,0,none⟩) tabs.length tc):=by rw [hlt];exact hBc
 have Oz:tabs.length<=1000:=by omega
 clear hlt
 gi_wp2
 refine Hg (W:=w1) (tabs:=tabs) (Bt:=Bt) (tb:=tb) (tc:=tc) h1 rfl rfl (λj=>j<w1.heap.size+3/\j≠w.heap.size+2) ⟨by omega,by omega⟩ ⟨by omega,by omega⟩ ⟨by omega,by omega⟩ hmp Oz (λt h=>(hrows t h).1) (λt h=>(hrows t h).2) Q9 hBt UB Q8
  (λpre A=>Uy hd cl k sb ob (w1.heap.size+3) w pre A)
  (λs A B hi hs ho ht hp hb=>?hI) (λW1 hs1 hb1=>?h0) ?a₁ (λl A K hK=>?hassign) (λl pre x A hi hx hl hsz=>?hbody) (λA hi hdf=>?hdone)
 case hI=>
  obtain ⟨hR,c0,c1⟩:=hi
  have hlt2:w.heap.size+2<A.heap.size:=by obtain ⟨v,xs,bx,_⟩:=hR.box;exact bx.lt
  exact ⟨hR.same rfl (by omega) (by omega) (λb h => .inr h) hs ho ht hp hb,(fB (w:=A) (a:=⟨w.heap.size,0,none⟩) (hb w.heap.size (by omega) (by omega) (by omega) (by omega))).trans c0,(fB (w:=A) (a:=⟨w.heap.size+1,0,none⟩) (hb (w.heap.size+1) (by omega) (by omega) (by omega) (by omega))).trans c1⟩
 case h0=>
  refine ⟨m7.start ((hb1.block _ (by omega)).trans QX.out) (by omega) (AD.out.trans (hb1.mono (by omega))),(hb1.cell (p:=⟨w.heap.size,0,none⟩) (by show w.heap.size<_;omega)).trans u0,(hb1.cell (p:=⟨w.heap.size+1,0,none⟩) (by show w.heap.size+1<_;omega)).trans u1⟩
 case hassign=>
  gi_wp2
  exact hK
 case hbody=>
  obtain ⟨⟨⟨v,xs,bx,ox,ax⟩,Ra,bel⟩,c0,c1⟩:=hi
  have htk:x.map (lB k w)∈aK (rowsOf T src):=by rw [HP.out];exact List.mem_map.2 ⟨x,hx.2.2,rfl⟩
  have o9:=hid (hx.tkn hT2 bel hk)
  have YZ:=hid (HX.out _ htk)
  have Y0:=hid (HY.out _ htk)
  have UC:=hid (HA.out.bel bel)
  have HF:Hid (((pre ++ [x]).map (·.map (lB k w))).flatMap (λtk=>if hd tk then [cl tk] else [])=(pre.map (·.map (lB k w))).flatMap (λtk=>if hd tk then [cl tk] else [])++(if hd (x.map (lB k w)) then [cl (x.map (lB k w))] else [])):=by show _=_;simp
  have hxl:xs.length<=1000:=by
   have h2:((pre.map (·.map (lB k w))).flatMap (λtk=>if hd tk then [cl tk] else [])).length<=(pre.map (·.map (lB k w))).length:=uL _ _ (λtk=>by split <;> simp)
   rw [List.length_map] at h2
   rw [ax.len];omega
  generalize x.map (lB k w)=tk at *
  generalize (pre.map (·.map (lB k w))).flatMap (λtk=>if hd tk then [cl tk] else [])=R0 at *
  have Cr:=hid bx
  have SQ:=hid ox
  have SS:=hid ax
  have Aj:=hid bel
  have OA:=hid (λ(A' : World) (g:Gr A A')=>JR (UC.out.gr g) (o9.out.gr g))
  clear ax ox bel bx
  gi_wp2
  refine ⟨λh=>(by cases h),?_⟩
  refine (CallsIn.inRound l (callsIn_wide.2 (OA.out A (Gr.refl A)))).mono ?_
  rintro e A2 ⟨v2,rfl,OB,g2⟩
  obtain ⟨ib,rfl,hib,_⟩:=OB.ptr
  have Rb:=hid OB
  have G2:=hid g2
  have hwA:w.heap.size+2<A.heap.size:=Cr.out.lt
  have d0:=(g2.cell (p:=⟨w.heap.size,0,none⟩) (by show w.heap.size<_;omega)).trans c0
  have hsA:sb<A.heap.size:=by omega
  have d4:=(g2.cell (p:=⟨sb,4,none⟩) hsA).trans ((Aj.out.cell (p:=⟨sb,4,none⟩) hsw).trans b4)
  have J7:Hid (RowKit.Below w.heap.size w A2):=Aj.out.trans (g2.below.mono Aj.out.size)
  clear OB g2
  gi_wp2
  refine ⟨λh=>(by cases h),?_⟩
  refine (CallsIn.inRound l (callsIn_wide.2 (YZ.out A2 _ J7.out Rb.out))).mono ?_
  rintro e A3 ⟨rfl,g3⟩
  have G3:=hid (G2.out.trans g3)
  have UD:=hid (Rb.out.gr g3)
  have Nj:Hid (RowKit.Below w.heap.size w A3):=J7.out.trans (g3.below.mono J7.out.size)
  have e0:=(g3.cell (p:=⟨w.heap.size,0,none⟩) (by show w.heap.size<_;have:=G2.out.size;omega)).trans d0
  clear g3 d0 d4
  by_cases hh:hd tk=true
  ·rw [hh]
   have Ps:Hid ((if hd tk=true then [cl tk] else []) = [cl tk]):=by show _=_;rw [if_pos hh]
   clear hh
   have hmx:=mixed
   have h1' : 1<=n - 1 - 1:=by omega
   obtain ⟨i0,ji,fR,jz1,fS⟩:=info_parts pV
   have r3:=(cO Cr.out G3.out).cell
   have hz3:=G3.out.size
   have Ct:Hid (Gr A A3.drew):=G3.out.drew
   have vF:=hid (Y0.out A3.drew _ (Nj.out.drew) (UD.out.gr (Gr.refl A3).drew))
   gi_wp2
   refine wpIn_region_any (by assumption) ?_
   change wpAnyIn _ _ _ _ _ _ _ _ _ (World.drew _)
   refine wpAnyIn_ready (rs := [0,1,2]) (by kernel_rfl) (by simp) ?_
   refine AllReadyIn.cons rfl (λK hK=>?_) ?_
   (go_simp;refine hK _ _ ?_;clear hK K)
   refine wpAnyIn_ready (rs := [1,2]) (by kernel_rfl) (by simp) ?_
   refine AllReadyIn.cons rfl (λK hK=>?_) ?_
   (go_simp;refine hK _ _ ?_;clear hK K)
   refine wpAnyIn_ready (rs := [2]) (by kernel_rfl) (by simp) ?_
   refine AllReadyIn.cons rfl (λK hK=>?_) ?_
   (go_simp;refine hK _ _ ?_;clear hK K)
   refine ?J8
   rotate_left
   exact AllReadyIn.nil
   refine AllReadyIn.cons rfl (λK hK=>?_) ?_
   (go_simp;refine hK _ _ ?_;clear hK K)
   refine wpAnyIn_ready (rs := [1]) (by kernel_rfl) (by simp) ?_
   refine AllReadyIn.cons rfl (λK hK=>?_) ?_
   (go_simp;refine hK _ _ ?_;clear hK K)
   exact ?J8
   exact AllReadyIn.nil
   exact AllReadyIn.nil
   refine AllReadyIn.cons rfl (λK hK=>?_) ?_
   (go_simp;refine hK _ _ ?_;clear hK K)
   refine wpAnyIn_ready (rs := [0,2]) (by kernel_rfl) (by simp) ?_
   refine AllReadyIn.cons rfl (λK hK=>?_) ?_
   (go_simp;refine hK _ _ ?_;clear hK K)
   refine wpAnyIn_ready (rs := [2]) (by kernel_rfl) (by simp) ?_
   refine AllReadyIn.cons rfl (λK hK=>?_) ?_
   (go_simp;refine hK _ _ ?_;clear hK K)
   exact ?J8
   exact AllReadyIn.nil
   refine AllReadyIn.cons rfl (λK hK=>?_) ?_
   (go_simp;refine hK _ _ ?_;clear hK K)
   refine ?Rc
   rotate_left
   exact AllReadyIn.nil
   refine AllReadyIn.cons rfl (λK hK=>?_) ?_
   (go_simp;refine hK _ _ ?_;clear hK K)
   refine wpAnyIn_ready (rs := [0,1]) (by kernel_rfl) (by simp) ?_
   refine AllReadyIn.cons rfl (λK hK=>?_) ?_
   (go_simp;refine hK _ _ ?_;clear hK K)
   refine wpAnyIn_ready (rs := [1]) (by kernel_rfl) (by simp) ?_
   refine AllReadyIn.cons rfl (λK hK=>?_) ?_
   (go_simp;refine hK _ _ ?_;clear hK K)
   exact ?J8
   exact AllReadyIn.nil
   refine AllReadyIn.cons rfl (λK hK=>?_) ?_
   (go_simp;refine hK _ _ ?_;clear hK K)
   exact ?Rc
   exact AllReadyIn.nil
   exact AllReadyIn.nil
   case Rc=>
    refine wpAnyIn_ready (rs := [0,3]) (by kernel_rfl) (by simp) ?_
    refine AllReadyIn.cons rfl (λK hK=>?_) ?_
    (go_simp;refine hK _ _ ?_;clear hK K)
    exact ?J8
    refine AllReadyIn.cons rfl (λK hK=>?_) ?_
    (go_simp;refine (CallsIn.inRound l (callsIn_wide.2 vF.out)).mono ?_;rintro e4 A4 ⟨gf,lb,rfl,hrf,g4⟩;have SU:=hid hrf;have LQ:=hid (Ct.out.trans g4);have r4:=(cO Cr.out LQ.out).cell;have y8:=LQ.out.size;clear hrf g4;refine hK _ _ ?_;clear hK K)
    refine wpAnyIn_ready (rs := [0,4]) (by kernel_rfl) (by simp) ?_
    refine AllReadyIn.cons rfl (λK hK=>?_) ?_
    (go_simp;refine hK _ _ ?_;clear hK K)
    refine wpAnyIn_ready (rs := [4]) (by kernel_rfl) (by simp) ?_
    refine AllReadyIn.cons rfl (λK hK=>?_) ?_
    (go_simp;refine (CallsIn.inRound l (callsIn_wide.2 SU.out)).mono ?_;rintro e5 A5 ⟨u,rfl,ou,bu⟩;obtain ⟨ua,uc,rfl⟩:=ou.sl;obtain ⟨r5,g',c',W4,AE,hap,q4,q5⟩:=oW Cr.out SQ.out SS.out Aj.out hsz hxl (by omega) Ct.out.below Ct.out.size bu ou i0 ji fR jz1 fS;have rM:w.heap.size+2<A5.heap.size:=cell_lt r5;clear ou bu;refine hK _ _ ?_;clear hK K)
    refine wpAnyIn_ready (rs := [5]) (by kernel_rfl) (by simp) ?_
    refine AllReadyIn.cons rfl (λK hK=>?_) ?_
    (go_simp;refine hK _ _ ?_;clear hK K)
    refine wpAnyIn_ready (rs := [6]) (by kernel_rfl) (by simp) ?_
    refine AllReadyIn.cons rfl (λK hK=>?_) ?_
    (refine gF hap (.tmp 27) (.tmp 32) (by rfl) (by rfl) (by rfl) (by rfl) (by rfl) ?_;refine hK _ _ ?_;clear hK K)
    refine wpAnyIn_ready (rs := [7]) (by kernel_rfl) (by simp) ?_
    refine AllReadyIn.cons rfl (λK hK=>?_) ?_
    (go_simp;refine hK _ _ ?_;clear hK K)
    (refine wpAnyIn_done (by kernel_rfl) ?_ _;gi_wp2;exact ⟨AE.out.2,by rw [HF.out,Ps.out];exact AE.out.1,(AE.out.2.cell (p:=⟨w.heap.size,0,none⟩) (by show w.heap.size<_;omega) ⟨by show w.heap.size<_;omega,by show w.heap.size≠_;omega⟩).trans c0,(AE.out.2.cell (p:=⟨w.heap.size+1,0,none⟩) (by show w.heap.size+1<_;omega) ⟨by show w.heap.size+1<_;omega,by show w.heap.size+1≠_;omega⟩).trans c1⟩)
    exact AllReadyIn.nil
    exact AllReadyIn.nil
    exact AllReadyIn.nil
    exact AllReadyIn.nil
    refine AllReadyIn.cons rfl (λK hK=>?_) ?_
    (go_simp;refine (CallsIn.inRound l (callsIn_wide.2 SU.out)).mono ?_;rintro e5 A5 ⟨u,rfl,ou,bu⟩;obtain ⟨ua,uc,rfl⟩:=ou.sl;obtain ⟨r5,g',c',W4,AE,hap,q4,q5⟩:=oW Cr.out SQ.out SS.out Aj.out hsz hxl (by omega) Ct.out.below Ct.out.size bu ou i0 ji fR jz1 fS;have rM:w.heap.size+2<A5.heap.size:=cell_lt r5;clear ou bu;refine hK _ _ ?_;clear hK K)
    refine wpAnyIn_ready (rs := [0,5]) (by kernel_rfl) (by simp) ?_
    refine AllReadyIn.cons rfl (λK hK=>?_) ?_
    (go_simp;refine hK _ _ ?_;clear hK K)
    refine wpAnyIn_ready (rs := [5]) (by kernel_rfl) (by simp) ?_
    refine AllReadyIn.cons rfl (λK hK=>?_) ?_
    (go_simp;refine hK _ _ ?_;clear hK K)
    refine wpAnyIn_ready (rs := [6]) (by kernel_rfl) (by simp) ?_
    refine AllReadyIn.cons rfl (λK hK=>?_) ?_
    (refine gF hap (.tmp 27) (.tmp 32) (by rfl) (by rfl) (by rfl) (by rfl) (by rfl) ?_;refine hK _ _ ?_;clear hK K)
    refine wpAnyIn_ready (rs := [7]) (by kernel_rfl) (by simp) ?_
    refine AllReadyIn.cons rfl (λK hK=>?_) ?_
    (go_simp;refine hK _ _ ?_;clear hK K)
    (refine wpAnyIn_done (by kernel_rfl) ?_ _;gi_wp2;exact ⟨AE.out.2,by rw [HF.out,Ps.out];exact AE.out.1,(AE.out.2.cell (p:=⟨w.heap.size,0,none⟩) (by show w.heap.size<_;omega) ⟨by show w.heap.size<_;omega,by show w.heap.size≠_;omega⟩).trans c0,(AE.out.2.cell (p:=⟨w.heap.size+1,0,none⟩) (by show w.heap.size+1<_;omega) ⟨by show w.heap.size+1<_;omega,by show w.heap.size+1≠_;omega⟩).trans c1⟩)
    exact AllReadyIn.nil
    exact AllReadyIn.nil
    exact AllReadyIn.nil
    refine AllReadyIn.cons rfl (λK hK=>?_) ?_
    (go_simp;refine hK _ _ ?_;clear hK K)
    refine wpAnyIn_ready (rs := [0]) (by kernel_rfl) (by simp) ?_
    refine AllReadyIn.cons rfl (λK hK=>?_) ?_
    (go_simp;refine hK _ _ ?_;clear hK K)
    refine wpAnyIn_ready (rs := [6]) (by kernel_rfl) (by simp) ?_
    refine AllReadyIn.cons rfl (λK hK=>?_) ?_
    (refine gF hap (.tmp 27) (.tmp 32) (by rfl) (by rfl) (by rfl) (by rfl) (by rfl) ?_;refine hK _ _ ?_;clear hK K)
    refine wpAnyIn_ready (rs := [7]) (by kernel_rfl) (by simp) ?_
    refine AllReadyIn.cons rfl (λK hK=>?_) ?_
    (go_simp;refine hK _ _ ?_;clear hK K)
    (refine wpAnyIn_done (by kernel_rfl) ?_ _;gi_wp2;exact ⟨AE.out.2,by rw [HF.out,Ps.out];exact AE.out.1,(AE.out.2.cell (p:=⟨w.heap.size,0,none⟩) (by show w.heap.size<_;omega) ⟨by show w.heap.size<_;omega,by show w.heap.size≠_;omega⟩).trans c0,(AE.out.2.cell (p:=⟨w.heap.size+1,0,none⟩) (by show w.heap.size+1<_;omega) ⟨by show w.heap.size+1<_;omega,by show w.heap.size+1≠_;omega⟩).trans c1⟩)
    exact AllReadyIn.nil
    exact AllReadyIn.nil
    exact AllReadyIn.nil
    exact AllReadyIn.nil
    exact AllReadyIn.nil
    exact AllReadyIn.nil
   case J8=>
    refine wpAnyIn_ready (rs := [3]) (by kernel_rfl) (by simp) ?_
    refine AllReadyIn.cons rfl (λK hK=>?_) ?_
    (go_simp;refine (CallsIn.inRound l (callsIn_wide.2 vF.out)).mono ?_;rintro e4 A4 ⟨gf,lb,rfl,hrf,g4⟩;have SU:=hid hrf;have LQ:=hid (Ct.out.trans g4);have r4:=(cO Cr.out LQ.out).cell;have y8:=LQ.out.size;clear hrf g4;refine hK _ _ ?_;clear hK K)
    refine wpAnyIn_ready (rs := [4]) (by kernel_rfl) (by simp) ?_
    refine AllReadyIn.cons rfl (λK hK=>?_) ?_
    (go_simp;refine (CallsIn.inRound l (callsIn_wide.2 SU.out)).mono ?_;rintro e5 A5 ⟨u,rfl,ou,bu⟩;obtain ⟨ua,uc,rfl⟩:=ou.sl;obtain ⟨r5,g',c',W4,AE,hap,q4,q5⟩:=oW Cr.out SQ.out SS.out Aj.out hsz hxl (by omega) Ct.out.below Ct.out.size bu ou i0 ji fR jz1 fS;have rM:w.heap.size+2<A5.heap.size:=cell_lt r5;clear ou bu;refine hK _ _ ?_;clear hK K)
    refine wpAnyIn_ready (rs := [5]) (by kernel_rfl) (by simp) ?_
    refine AllReadyIn.cons rfl (λK hK=>?_) ?_
    (go_simp;refine hK _ _ ?_;clear hK K)
    refine wpAnyIn_ready (rs := [6]) (by kernel_rfl) (by simp) ?_
    refine AllReadyIn.cons rfl (λK hK=>?_) ?_
    (refine gF hap (.tmp 27) (.tmp 32) (by rfl) (by rfl) (by rfl) (by rfl) (by rfl) ?_;refine hK _ _ ?_;clear hK K)
    refine wpAnyIn_ready (rs := [7]) (by kernel_rfl) (by simp) ?_
    refine AllReadyIn.cons rfl (λK hK=>?_) ?_
    (go_simp;refine hK _ _ ?_;clear hK K)
    (refine wpAnyIn_done (by kernel_rfl) ?_ _;gi_wp2;exact ⟨AE.out.2,by rw [HF.out,Ps.out];exact AE.out.1,(AE.out.2.cell (p:=⟨w.heap.size,0,none⟩) (by show w.heap.size<_;omega) ⟨by show w.heap.size<_;omega,by show w.heap.size≠_;omega⟩).trans c0,(AE.out.2.cell (p:=⟨w.heap.size+1,0,none⟩) (by show w.heap.size+1<_;omega) ⟨by show w.heap.size+1<_;omega,by show w.heap.size+1≠_;omega⟩).trans c1⟩)
    exact AllReadyIn.nil
    exact AllReadyIn.nil
    exact AllReadyIn.nil
    exact AllReadyIn.nil
    exact AllReadyIn.nil
  ·have hh' : hd tk=false:=by simpa using hh
   rw [hh']
   have Ps:Hid ((if hd tk=true then [cl tk] else []) = []):=by show _=_;rw [if_neg hh]
   clear hh hh'
   gi_wp2
   refine ⟨Fr.dZ G3.out,?_,e0,(G3.out.cell (p:=⟨w.heap.size+1,0,none⟩) (by show w.heap.size+1<_;omega)).trans c1⟩
   rw [HF.out,Ps.out,List.append_nil]
   exact ⟨⟨v,xs,cO Cr.out G3.out,aH SQ.out G3.out.below,SS.out.mono λa b h=>h.bel G3.out.below⟩,cE Ra (Nat.add_le_add_right G3.out.size 1),Nj.out⟩
 case hdone=>
  obtain ⟨⟨⟨v,xs,bx,ox,ax⟩,Ra,bel⟩,c0,c1⟩:=hi
  have hE:((aK tabs).map (·.map (lB k w))).flatMap (λtk=>if hd tk then [cl tk] else [])=(aK (rowsOf T src)).flatMap (λtk=>if hd tk then [cl tk] else []):=by rw [HP.out]
  rw [hE] at ax
  have hlr:((aK (rowsOf T src)).flatMap (λtk=>if hd tk then [cl tk] else [])).length<=1000:=by
   have:=uL (λtk=>if hd tk then [cl tk] else []) (aK (rowsOf T src)) (λtk=>by split <;> simp)
   omega
  have hwr:∀ r∈(aK (rowsOf T src)).flatMap (λtk=>if hd tk then [cl tk] else []),r.length=wd:=by
   intro r hr
   obtain ⟨tk,h1,h2⟩:=List.mem_flatMap.1 hr
   split at h2
   ·simp at h2;rw [h2];exact YR.out tk h1
   ·simp at h2
  clear hE
  obtain ⟨R0,hR0⟩:∃ R0,R0=(aK (rowsOf T src)).flatMap (λtk=>if hd tk then [cl tk] else []):=⟨_,rfl⟩
  have HR0:=hid hR0
  rw [<- hR0] at ax hlr hwr
  clear hR0
  have GA:=hid ((Gr.refl A).alloc (.cells #[v] 32))
  have HL:Hid (xN (λ_=>True) (A.alloc (.cells #[v] 32)) v R0):=xN.bel ⟨xs,sI.owned ox,ax.mono λa b h=>h.to λ_ _ _=>trivial⟩ GA.out.below
  have HS:=hid (oR (C:=λ_=>True) (b:=A.heap.size) (off:=0) (n:=1) (c:=1) (k:=wd) (vs := [v]) (q7 := [R0]) (w:=A.alloc (.cells #[v] 32)) rfl rfl (by simp) (λj hj=>by obtain rfl:j=0:=(by simpa using hj);simp) (λj hj=>by obtain rfl:j=0:=(by simpa using hj);exact HL.out) (by simpa using (by omega:R0.length<=100000)) (by omega) hwb (by simpa using hwr))
  simp only [List.flatten_cons,List.flatten_nil,List.append_nil] at HS
  obtain ⟨va,vn,vc,rfl⟩:∃ a n c,v = .slice a n c:=by
   rcases sI.owned ox with ⟨e,_⟩ | ⟨b,o,c,e,_⟩
   ·exact ⟨_,_,_,e⟩
   ·exact ⟨_,_,_,e⟩
  have UE:=hid bx
  have Aj:=hid bel
  have hwA:w.heap.size+2<A.heap.size:=bx.lt
  have r0:=bx.cell
  have Y1:w1.heap.size<A.heap.size:=(Array.getElem?_eq_some_iff.1 hdf).1
  have Y2:=hid hdf
  have a0:A.cell? ⟨sb,0,none⟩=some (.bool di):=(bel.cell (p:=⟨sb,0,none⟩) hsw).trans b0
  have hsA:sb<A.heap.size:=by omega
  have I7:=hid hlr
  clear bx ox ax bel hdf hlr hwr
  gi_wp2
  refine (callsIn_wide.2 HS.out).mono ?_
  rintro e A6 ⟨u,rfl,hu,g6⟩
  have G6:=hid (GA.out.trans g6)
  obtain ⟨ua,uc,rfl⟩:=hu.sl
  have B6:=cO UE.out G6.out
  have HRs:Hid (dS (A.heap.size+1) wd (A6.setCell ⟨w.heap.size+2,0,none⟩ (.slice ua (aI R0).length uc)) (.slice ua (aI R0).length uc) (aI R0)):=by
   have h2:dS (A.heap.size+1) wd A6 (.slice ua (aI R0).length uc) (aI R0):=by simpa using hu
   exact h2.other (rY B6) (by omega) (by simp [World.setCell]) λj _ hj=>dQ _ _ _ _ hj
  have Mx:=hid (B6.set (.slice ua (aI R0).length uc))
  have q0:=B6.cell
  have q1:=B6.frozen
  have q2:=Mx.out.cell
  have q3:=(G6.out.cell (p:=⟨w.heap.size,0,none⟩) (by show w.heap.size<_;omega)).trans c0
  have q4:=(G6.out.cell (p:=⟨sb,0,none⟩) hsA).trans a0
  have Re:Hid ((A6.setCell ⟨w.heap.size+2,0,none⟩ (.slice ua (aI R0).length uc)).heap[w1.heap.size]?=some (.deferred (some []))):=(dQ _ _ _ _ (show w1.heap.size≠w.heap.size+2 by omega)).trans ((G6.out.below.block _ Y1).trans Y2.out)
  have Rf:Hid (RowKit.Below w.heap.size w (A6.setCell ⟨w.heap.size+2,0,none⟩ (.slice ua (aI R0).length uc))):=(Aj.out.trans (G6.out.below.mono Aj.out.size)).setCell (p:=⟨w.heap.size+2,0,none⟩) (show w.heap.size<=w.heap.size+2 by omega) _
  have Y3:sb≠w.heap.size+2:=by omega
  have Z7:=G6.out.size
  clear hu g6 GA HS HL
  cases di
  rotate_left
  ·have HO:=hid (uK HRs.out (by rw [(bF R0).length_eq];have:=I7.out;omega) hwb)
   gi_wp2
   refine (callsIn_wide.2 HO.out).mono ?_
   rintro e A8 ⟨u8,rfl,⟨r8,o8⟩,k8⟩
   have hown:∀ j,j<=A.heap.size->(Value.slice ua (aI R0).length uc).ownBlock≠some j:=λj hj e=>by have:=(HRs.out.own j e).1;omega
   obtain ⟨Pt,Pu,rfl⟩:=r8.sl
   have Z8:A6.heap.size=(A6.setCell ⟨w.heap.size+2,0,none⟩ (.slice ua (aI R0).length uc)).heap.size:=by simp [World.setCell]
   have B8:Boxed A8 (w.heap.size+2) 32 (.slice ua (aI R0).length uc):=(k8.block _ (by omega) (hown _ (by omega))).trans Mx.out
   have O7:Hid (dS (A.heap.size+1) wd (A8.setCell ⟨w.heap.size+2,0,none⟩ (.slice Pt (once (aI R0)).length Pu)) (.slice Pt (once (aI R0)).length Pu) (once (aI R0))):=r8.other (rY B8) (by omega) (by simp [World.setCell]) λj _ hj=>dQ _ _ _ _ hj
   have s0:=B8.cell
   have s1:=B8.frozen
   have s2:=(B8.set (.slice Pt (once (aI R0)).length Pu)).cell
   have UF:Hid ((A8.setCell ⟨w.heap.size+2,0,none⟩ (.slice Pt (once (aI R0)).length Pu)).heap[w1.heap.size]?=some (.deferred (some []))):=(dQ _ _ _ _ (show w1.heap.size≠w.heap.size+2 by omega)).trans ((k8.block _ (by omega) (hown _ (by omega))).trans Re.out)
   have Vk:Hid (RowKit.Below w.heap.size w (A8.setCell ⟨w.heap.size+2,0,none⟩ (.slice Pt (once (aI R0)).length Pu))):=(Rf.out.trans (k8.below (by omega) λb h=>by have:=(HRs.out.own b h).1;omega)).setCell (p:=⟨w.heap.size+2,0,none⟩) (show w.heap.size<=w.heap.size+2 by omega) _
   clear r8 o8 k8 B8 HO hown
   gi_wp2
   have hDf:=UF.out
   refine ⟨by simp, .inl ⟨_,_,rfl,run_takeDeferred hDf,?_⟩⟩
   refine ⟨.slice Pt (once (aI R0)).length Pu,by simp [results,Tryz.f154,go_sem],_,rfl,?_,Vk.out.trans (belowK_b (w:=w) (aF _) _ w1.heap.size _ _ (by omega) hDf rfl rfl)⟩
   rw [<- HR0.out]
   exact (O7.out.other (x6 hDf) (by omega) (by simp) λj _ hj=>World.putObj_heap_other hj).lower (by omega)
  gi_wp2
  have hDf:=Re.out
  refine ⟨by simp, .inl ⟨_,_,rfl,run_takeDeferred hDf,?_⟩⟩
  refine ⟨.slice ua (aI R0).length uc,by simp [results,Tryz.f154,go_sem],_,rfl,?_,Rf.out.trans (belowK_b (w:=w) (aF _) _ w1.heap.size _ _ (by omega) hDf rfl rfl)⟩
  rw [<- HR0.out]
  exact (HRs.out.other (x6 hDf) (by omega) (by simp) λj _ hj=>World.putObj_heap_other hj).lower (by omega)
end Go.Proofs.YtgnncnhkgmhngaaGreatDoor
