import Derived.Test.YtgnncnhkgmhngaaGreatDoorJ43
set_option maxHeartbeats 4000000
set_option maxRecDepth 100000
namespace Go.Proofs.YtgnncnhkgmhngaaGreatDoor
open Go.RowKit Go.Sort
attribute [local go_sem] Oper.semAt_some
theorem OwR.rwc {base:Nat} {w:World} {v:Value} {vs:List Sv.Val} (h:OwR base w v vs):RwC (fun b=>base<=b) w v vs:=by
 by_cases hne:vs = []
 ·subst hne
  have hb:=ownsV_block h
  obtain ⟨hl,h | ⟨g',cap,cur,hv,h0,hc,r⟩⟩:=h
  ·exact .inl ⟨h.1,rfl⟩
  ·subst hv
   exact .inr ⟨g',0,cap,rfl,h0,(hb g' rfl).2,fun j hj=>by simp at hj,fun j hj=>by simp at hj,fun j hj=>by simp at hj⟩
 ·obtain ⟨b,c,e,hb,hv⟩:=h.hv hne
  exact .inr ⟨b,0,c,e,hb,hv⟩
theorem one_cell {v:Value} (h:v.oneCell'=true):∀ u∈([v]:List Value),u.oneCell'=true:=fun u hu=>by simp at hu;rw [hu];exact h
def SelI (hd:List Sp.Row->Bool) (cl:List Sp.Row->Sp.Row) (k sb ob N:Nat) (w:World) (pre:List (List Value)) (A:World):Prop:=
 RowsI (fun b=>N<=b) w N (w.heap.size+2) ((pre.map (·.map (decR k w))).flatMap fun tk=>if hd tk then [cl tk] else []) A/\A.cell? ⟨w.heap.size,0,none⟩=some (.pointer (some ⟨sb,0,none⟩))/\A.cell? ⟨w.heap.size+1,0,none⟩=some (.pointer (some ⟨ob,0,none⟩))
theorem Hv.other {A B:World} {q b off:Nat} {r:List Sv.Val} (h:Hv A b off r) (hq:∀ o k i,A.cell? ⟨q,o,none⟩≠some (.int k i)) (hs:A.heap.size<=B.heap.size) (hb:∀ j,j<A.heap.size->j≠q->B.heap[j]?=A.heap[j]?):Hv B b off r:=by
 by_cases e:b=q
 ·subst e
  have hr:r = []:=by
   cases r with
   | nil=>rfl
   | cons x l=>exact absurd (h.k 0 (by simp)) (hq _ _ _)
  subst hr
  exact ⟨Nat.lt_of_lt_of_le h.lb hs,fun j hj=>by simp at hj,fun j hj=>by simp at hj,fun j hj=>by simp at hj⟩
 ·exact h.blk hs (hb b h.lb e)
theorem RsO.other {base k:Nat} {A B:World} {q:Nat} {v:Value} {rows:List (List Sv.Val)} (h:RsO base k A v rows) (hq:∀ o k i,A.cell? ⟨q,o,none⟩≠some (.int k i)) (hqb:q<base) (hs:A.heap.size<=B.heap.size) (hb:∀ j,j<A.heap.size->j≠q->B.heap[j]?=A.heap[j]?):RsO base k B v rows:=by
 rcases h with h | ⟨blk,c,e,h1,h2,hr⟩
 ·exact .inl h
 ·have eb:=hb blk h2 (by omega)
  refine .inr ⟨blk,c,e,h1,by omega,fun j hj=>?_⟩
  obtain ⟨u,p1,p2,p3,p4⟩:=hr j hj
  refine ⟨u,(World.cell?_of_block (w:=A) (a:=⟨blk,0+j,none⟩) eb).trans p1,(World.frozen?_of_block (w:=A) (a:=⟨blk,0+j,none⟩) eb).trans p2,?_,p4⟩
  rcases p3 with p3 | ⟨b,o,c,e,hne,hv⟩
  ·exact .inl p3
  ·exact .inr ⟨b,o,c,e,hne,hv.other hq hs hb⟩
theorem RsO.lower {b b' k:Nat} {w:World} {v:Value} {rows:List (List Sv.Val)} (h:RsO b k w v rows) (hb:b'<=b):RsO b' k w v rows:=by
 rcases h with h | ⟨blk,c,e,h1,h2,hr⟩
 ·exact .inl h
 ·exact .inr ⟨blk,c,e,by omega,h2,hr⟩
theorem RsO.sl {base k:Nat} {A:World} {v:Value} {rows:List (List Sv.Val)} (h:RsO base k A v rows):∃ a c,v = .slice a rows.length c:=by
 rcases h with ⟨e,h⟩ | ⟨blk,c,e,_⟩
 ·exact ⟨none,0,by rw [e];exact h⟩
 ·exact ⟨_,_,e⟩
theorem boxed_noint {A:World} {q:Nat} {t:TypeId} {a:Option Addr} {n c:Nat} (h:Boxed A q t (.slice a n c)):∀ o k i,A.cell? ⟨q,o,none⟩≠some (.int k i):=by
 intro o k i e
 have hb:A.heap[q]?=some (.cells #[.slice a n c] t (0,0)):=h
 simp only [World.cell?,hb] at e
 match o,e with
 | 0,e=>simp at e
 | o+1,e=>simp at e
theorem def_noint {A:World} {q:Nat} {d:Option (List Deferred)} (h:A.heap[q]?=some (.deferred d)):∀ o k i,A.cell? ⟨q,o,none⟩≠some (.int k i):=by
 intro o k i e
 simp [World.cell?,h] at e
theorem SlV.owned {base:Nat} {w:World} {v:Value} {xs:List Value} (o:w.ownsRow base 41 1 v xs.length xs):SlV w v xs:=by
 have ho:=o
 have hb:=ownsV_block o
 obtain ⟨hl,h | ⟨g,cap,cur,hv,h0,hc,r⟩⟩:=o
 ·exact .inl ⟨h.1,List.eq_nil_of_length_eq_zero h.2⟩
 ·subst hv
  exact .inr ⟨g,0,cap,rfl,(hb g rfl).2,fun i hi=>by rw [Nat.zero_add];exact owns_cells ho i _ (List.getElem?_eq_getElem hi)⟩
theorem stepIn_append {F:Fence} {n:Nat} {P:Program} {ops:Array Oper} {o:Oper} {a:Act} {w:World} {K:Act->World->Prop} {Q:Exit->Act->World->Prop} {E:Prop} {t ty:TypeId} {v u v' : Value} {w' : World} (hap:(Builtin.append_ #[t,t] ty #[v,u]).run P w = .ok v' w') (s x:Operand) (hgd:o.guard=none)
  (ho:o.op = .call { callee := .builtin .append,args:=#[s,x],argTypes:=#[t,t] }) (hty:o.type=ty) (hs:a.eval s=v) (hx:a.eval x=u) (h:K (a.put o.dst v') w') :
  if Region.wanted o (yielded ops a.tmps)=true then Oper.wpIn F n P o a w K Q else E:=by
 subst hty
 have hw:Region.wanted o (yielded ops a.tmps)=true:=by simp [Region.wanted,hgd]
 rw [if_pos hw]
 unfold Oper.wpIn
 refine ⟨?_,?_⟩
 ·simp [Oper.about,ho,resolve,Target.leads,Sem.run_pure]
 ·rw [Oper.semAt_plain F _ _ (by rw [ho];intro c hc';cases hc')]
  simp [execOp,ho,resolve,invoke,builtin,hs,hx,hap,Result.andThen]
  exact h
theorem cell_lt {w:World} {b o:Nat} {v:Value} (h:w.cell? ⟨b,o,none⟩=some v):b<w.heap.size:=by
 rcases Nat.lt_or_ge b w.heap.size with h' | h'
 ·exact h'
 ·simp [World.cell?,Array.getElem?_eq_none h'] at h
theorem sel_append {w A A3 A5:World} {N:Nat} {v:Value} {xs:List Value} {R0:List (List Sv.Val)} {vals:List Sv.Val} {ua:Option Addr} {uc:Nat} (bx:Boxed A (w.heap.size+2) 32 v) (ox:A.ownsRow N 41 1 v xs.length xs) (ax:Al (RwC (fun b=>N<=b/\some b≠v.ownBlock) A) xs R0) (bel:RowKit.Below w.heap.size w A) (hsz:N<=A.heap.size) (hxl:xs.length<=1000) (hN:w.heap.size+2<N)
  (g3:RowKit.Below A.heap.size A A3) (hz3:A.heap.size<=A3.heap.size) (bu:RowKit.Below A3.heap.size A3 A5) (ou:OwR A3.heap.size A5 (.slice ua vals.length uc) vals)
  (i0:TypeInfo) (ji:Tryz.prog.info? 41=some i0) (jz0:i0.zero=some (.slice none 0 0)) (jz1:i0.size=1) (jz2:i0.bytes=24) :
  A5.cell? ⟨w.heap.size+2,0,none⟩=some v/\∃ g' c' W4,Hid (RowsI (fun b=>N<=b) w N (w.heap.size+2) (R0 ++ [vals]) (W4.setCell ⟨w.heap.size+2,0,none⟩ (.slice (some ⟨g',0,none⟩) (xs.length+1) c'))/\Fr (fun k=>k<N/\k≠w.heap.size+2) A (W4.setCell ⟨w.heap.size+2,0,none⟩ (.slice (some ⟨g',0,none⟩) (xs.length+1) c')))/\
   (Builtin.append_ #[32,32] 32 #[v, .slice (some ⟨A5.heap.size,0,none⟩) 1 1]).run Tryz.prog (A5.alloc (.cells #[.slice ua vals.length uc] 41)) = .ok (.slice (some ⟨g',0,none⟩) (xs.length+1) c') W4/\W4.cell? ⟨w.heap.size+2,0,none⟩=some v/\W4.frozen? ⟨w.heap.size+2,0,none⟩=false:=by
 have HB5:RowKit.Below A.heap.size A A5:=g3.trans (bu.mono hz3)
 have hz5:A.heap.size<=A5.heap.size:=HB5.size
 have hrw:RwC (fun b=>N<=b/\some b≠v.ownBlock) A5 (.slice ua vals.length uc) vals:=ou.rwc.to fun b hb _=>⟨by omega,fun e=>by have:=(ownsV_block ox b e.symm).2;omega⟩
 have ho:(A5.alloc (.cells #[.slice ua vals.length uc] 41)).ownsRow N 41 1 v xs.length xs:=ownsV_below (ownsV_below ox HB5) ((Gr.refl A5).alloc _).below
 obtain ⟨g',c',W4,hap,hown,hgrow,hat,_⟩:=run_append_lies (P:=Tryz.prog) (A5.alloc (.cells #[.slice ua vals.length uc] 41)) 32 32 N 41 i0 (.slice none 0 0) 1 24 Tryz.underlying32 ji jz0 jz1 jz2 rfl (by decide) v xs.length xs ho ⟨A5.heap.size,0,none⟩ 1 1 [.slice ua vals.length uc] rfl (newV1 _ _ _) (one_slice _ _ _) (by omega) (by unfold maxLen;omega) (by omega) (by simp;omega) (A5.heap.size+1) (by simp)
 obtain ⟨p1,p2,p3⟩:=RowsI.push (D:=fun b=>N<=b) (by omega) hN (fun b hb=>by omega) hsz bel bx ox ax HB5 hrw hown hgrow hat
 have bx5:Boxed A5 (w.heap.size+2) 32 v:=(HB5.block _ bx.lt).trans bx
 exact ⟨bx5.cell,g',c',W4,⟨p2,p3⟩,hap,p1.cell,p1.frozen⟩
theorem flat_one {α β:Type} (f:α->List β):∀ l:List α,(∀ a,(f a).length<=1)->(l.flatMap f).length<=l.length
 | [],_=>by simp
 | a::l,h=>by have:=flat_one f l h;have:=h a;simp only [List.flatMap_cons,List.length_append,List.length_cons];omega
theorem rselected_in (n:Nat) (hn:6<=n) {k sb st blk c wd:Nat} {T:List Sp.Tb} {src:List (Sp.Nm×Sp.Nm)} {xv wv tv ov:Value} {env:List (List Sp.Row)} {w:World} (hd:List Sp.Row->Bool) (cl:List Sp.Row->Sp.Row)
  (hs:At w sb [.bool false, .int .i64 (st:Int),xv, .slice (some ⟨blk,0,none⟩) src.length c,wv]) (ha:Arn w tv env ov) (ht:Tbs k w T tv)
  (hsr:Srcs w blk 0 src) (hb:blk<w.heap.size) (hne:src ≠ []) (hm:src.length<=1000) (hf:∀ x∈src,(Sp.findTb x.1.1 T).isSome=true) (hpl:(prods (Sp.rowsOf T src)).length<=1000)
  (hX:∀ tk∈prods (Sp.rowsOf T src),∀ (A:World) (iv:Value),RowKit.Below w.heap.size w A->Arn A tv (tk::env) iv->Calls Tryz.prog 150 #[wv,iv] A fun e A'=>e = .returned (.bool (hd tk))/\Gr A A')
  (hY:∀ tk∈prods (Sp.rowsOf T src),∀ (A:World) (iv:Value),RowKit.Below w.heap.size w A->Arn A tv (tk::env) iv->Calls Tryz.prog 197 #[.pointer (some ⟨sb,0,none⟩),iv] A fun e A'=>∃ gf lb,e = .returned (.func (.func gf) #[] lb)/\RowF A A' (.func (.func gf) #[] lb) (cl tk)/\Gr A A')
  (hwd:∀ tk∈prods (Sp.rowsOf T src),(cl tk).length=wd) (hwb:wd<=100000) :
  CallsIn Fence.wide n Tryz.prog 154 #[.pointer (some ⟨sb,0,none⟩),ov] w fun e W'=>∃ v,e = .returned v/\RsO w.heap.size wd W' v (sortR ((prods (Sp.rowsOf T src)).flatMap fun tk=>if hd tk then [cl tk] else []))/\RowKit.Below w.heap.size w W':=by
 have h1:1<=n:=by omega
 have hro:Fence.wide.round=none:=rfl
 have hfn:∀ k,Fence.wide.fn k:=fun _=>trivial
 have b0:=hs.k0
 have b3:=hs.k3
 have b4:=hs.k4
 have hsw:=hs.1
 obtain ⟨ob,rfl,hob,hoc⟩:=ha.ptr
 have HA:=hid ha
 have HTb:=hid ht
 have HX:=hid hX
 have HWd:=hid hwd
 have HY:=hid hY
 -- the three boxes
 obtain ⟨w0,hw0⟩:∃ w0,w0=((w.alloc (.cells #[.pointer (some ⟨sb,0,none⟩)] 278)).alloc (.cells #[.pointer (some ⟨ob,0,none⟩)] 195)).alloc (.cells #[.slice none 0 0] 32):=⟨_,rfl⟩
 have G0:Hid (Gr w w0):=by show Gr _ _;rw [hw0];exact (((Gr.refl w).alloc _).alloc _).alloc _
 have hz0:w0.heap.size=w.heap.size+3:=by rw [hw0];simp
 have x0:w0.cell? ⟨w.heap.size,0,none⟩=some (.pointer (some ⟨sb,0,none⟩)):=by
  rw [hw0];exact ((((Gr.refl _).alloc _).alloc _).cell (p:=⟨w.heap.size,0,none⟩) (by simp)).trans (by simp)
 have x1:w0.cell? ⟨w.heap.size+1,0,none⟩=some (.pointer (some ⟨ob,0,none⟩)):=by
  rw [hw0]
  refine (((Gr.refl _).alloc _).cell (p:=⟨w.heap.size+1,0,none⟩) (by simp)).trans ?_
  have h:=World.cell?_alloc_new (w.alloc (.cells #[.pointer (some ⟨sb,0,none⟩)] 278)) #[.pointer (some ⟨ob,0,none⟩)] 195 0
  rw [World.size_alloc] at h
  exact h
 have B2:Hid (Boxed w0 (w.heap.size+2) 32 (.slice none 0 0)):=by
  show Boxed _ _ _ _
  have h:=Boxed.new ((w.alloc (.cells #[.pointer (some ⟨sb,0,none⟩)] 278)).alloc (.cells #[.pointer (some ⟨ob,0,none⟩)] 195)) 32 (.slice none 0 0)
  rw [<- hw0] at h
  simpa using h
 have y0:=(G0.out.cell (p:=⟨ob,0,none⟩) hob).trans hoc
 have y3:=(G0.out.cell (p:=⟨sb,3,none⟩) hsw).trans b3
 have HTg:=hid (rtogether_any (c:=c) ht (Low.of_gr G0.out.drew) (hsr.same (G0.out.drew.below.block blk hb) _ _) (Nat.lt_of_lt_of_le hb G0.out.drew.size) hne hm hf)
 refine callsIn_of_wp_marks Tryz.func154 rfl (hfn _) ?_ hro
 simp only [Tryz.ntmps154,List.size_toArray,List.length_cons,List.length_nil,Nat.reduceAdd,Nat.reduceSub,Array.replicate_succ,Array.replicate_zero,List.push_toArray,List.append_toArray,List.nil_append,List.cons_append]
 gi_wp2
 rw [<- hw0]
 clear hw0
 refine wpIn_wide.2 ?_
 have x0' : w0.drew.cell? ⟨w.heap.size,0,none⟩=some (.pointer (some ⟨sb,0,none⟩)):=x0
 have x1' : w0.drew.cell? ⟨w.heap.size+1,0,none⟩=some (.pointer (some ⟨ob,0,none⟩)):=x1
 have y0' : w0.drew.cell? ⟨ob,0,none⟩=some tv:=y0
 have y3' : w0.drew.cell? ⟨sb,3,none⟩=some (.slice (some ⟨blk,0,none⟩) src.length c):=y3
 obtain ⟨tva,tvn,tvc,htv⟩:∃ a n c,tv = .slice a n c:=by
  rcases HTb.out.2.2 with ⟨_,e⟩ | ⟨b,off,c,V,e,_⟩
  ·exact ⟨_,_,_,e⟩
  ·exact ⟨_,_,_,e⟩
 clear hs ha ht hX hY hoc hwd
 subst htv
 go_region_held3 (fun w'=>w'.cell? ⟨w.heap.size,0,none⟩=some (.pointer (some ⟨sb,0,none⟩))/\w'.cell? ⟨w.heap.size+1,0,none⟩=some (.pointer (some ⟨ob,0,none⟩))/\w'.cell? ⟨ob,0,none⟩=some (.slice tva tvn tvc)/\w'.cell? ⟨sb,3,none⟩=some (.slice (some ⟨blk,0,none⟩) src.length c)) (first | (with_reducible exact ⟨x0',x1',y0',y3'⟩) | (with_reducible exact ⟨x0,x1,y0,y3⟩) | (with_reducible exact ⟨u0,u1,u2,u3⟩) | go_keep) (first | (go_at_call 196;refine HTg.out.mono ?_;rintro e1 w1 ⟨v1,rfl,⟨Bt,tb,tc,vs,rfl,hBt,hBc,⟨htz,htb⟩,hvc,hal⟩,hb1⟩;have u0:=(hb1.cell (p:=⟨w.heap.size,0,none⟩) (by show w.heap.size<w0.heap.size;omega)).trans x0';have u1:=(hb1.cell (p:=⟨w.heap.size+1,0,none⟩) (by show w.heap.size+1<w0.heap.size;omega)).trans x1';have u2:=(hb1.cell (p:=⟨ob,0,none⟩) (by show ob<w0.heap.size;omega)).trans y0';have u3:=(hb1.cell (p:=⟨sb,3,none⟩) (by show sb<w0.heap.size;omega)).trans y3'))
 have HBl:Hid (RowKit.Below w.heap.size w w1):=(G0.out.drew.below).trans (hb1.mono G0.out.drew.size)
 have HAl:=hid hal
 have HVc:=hid hvc
 have HBx:Hid (Boxed w1 (w.heap.size+2) 32 (.slice none 0 0)):=(hb1.block (w.heap.size+2) (by show w.heap.size+2<w0.heap.size;omega)).trans B2.out
 have hz1:w.heap.size+3<=w1.heap.size:=by have:=hb1.size;have:w0.heap.size<=w1.heap.size:=this;omega
 clear hal hvc hb1
 have htz' : w.heap.size+3<=tb:=by have:w0.heap.size<=tb:=htz;omega
 have hk:k<=w.heap.size:=HTb.out.2.1
 obtain ⟨tabs,hT1,hT2⟩:=tabs_of hk HAl.out
 have hlt:tabs.length=src.length:=hT1.len.symm.trans HAl.out.len
 have HDec:=hid (decR_tabs hT2)
 have HP:Hid (prods (Sp.rowsOf T src)=(prods tabs).map (·.map (decR k w))):=by show _=_;rw [<- HDec.out,prods_map]
 have hTabs:Tabs (fun j=>(j<w1.heap.size+3/\j≠w.heap.size+2)/\j≠w1.heap.size+2) w1 tb 0 tabs:=by
  refine ⟨htb,⟨⟨by omega,by omega⟩,by omega⟩,fun i hi=>?_⟩
  have hiv:i<vs.length:=by rw [hT1.len];exact hi
  refine ⟨vs[i],by rw [Nat.zero_add];exact HVc.out i hiv,?_⟩
  rcases hT1.get i hiv hi with h | ⟨b,o,c,e,hb',hbk,hcell⟩
  ·exact .inl h
  ·exact .inr ⟨b,o,c,e,by have:=HBl.out.size;omega,⟨⟨by have:=HBl.out.size;omega,by omega⟩,by have:=HBl.out.size;omega⟩,fun j hj=>(HBl.out.cell (p:=⟨b,o+j,none⟩) hb').trans (hcell j hj)⟩
 have hrows:∀ t∈tabs,t.length<=100000/\∀ r∈t,∃ a l c,r = .slice a l c:=by
  intro t htm
  obtain ⟨i,hi,rfl⟩:=List.mem_iff_getElem.1 htm
  have hiv:i<vs.length:=by rw [hT1.len];exact hi
  have h2:=hT2.get i hi (by rw [<- hT2.len];exact hi)
  refine ⟨?_,fun r hr=>?_⟩
  ·rw [h2.len]
   have his:i<src.length:=by omega
   obtain ⟨t,V,_,e,h3⟩:=HAl.out.get i hiv his
   simp only [Sp.rowsOf,List.getElem_map,e,Option.getD_some]
   have:=h3.rowN
   omega
  ·obtain ⟨q,_,hq⟩:=h2.memR hr
   rcases hq with ⟨e,_⟩ | ⟨b,o,c,e,_⟩
   ·exact ⟨_,_,_,e⟩
   ·exact ⟨_,_,_,e⟩
 have hplen:(prods tabs).length<=1000:=by have h:=hpl;rw [HP.out,List.length_map] at h;exact h
 have hmp:0<tabs.length:=by rw [hlt];exact List.length_pos_iff.2 hne
 have hBc' : w1.cell? ⟨Bt,0,none⟩=some (.slice (some ⟨tb,0,none⟩) tabs.length tc):=by rw [hlt];exact hBc
 have hb1000:tabs.length<=1000:=by omega
 clear hlt
 gi_wp2
 refine range_tog (W:=w1) (tabs:=tabs) (Bt:=Bt) (tb:=tb) (tc:=tc) h1 rfl rfl (fun j=>j<w1.heap.size+3/\j≠w.heap.size+2) ⟨by omega,by omega⟩ ⟨by omega,by omega⟩ ⟨by omega,by omega⟩ hmp hb1000 (fun t h=>(hrows t h).1) (fun t h=>(hrows t h).2) hplen hBt hBc' hTabs
  (fun pre A=>SelI hd cl k sb ob (w1.heap.size+3) w pre A)
  (fun s A B hi hs ho ht hp hb=>?hI) (fun W1 hs1 hb1=>?h0) ?a₁ (fun l A K hK=>?hassign) (fun l pre x A hi hx hl hsz=>?hbody) (fun A hi hdf=>?hdone)
 case hI=>
  obtain ⟨hR,c0,c1⟩:=hi
  have hlt2:w.heap.size+2<A.heap.size:=by obtain ⟨v,xs,bx,_⟩:=hR.box;exact bx.lt
  exact ⟨hR.same rfl (by omega) (by omega) (fun b h => .inr h) hs ho ht hp hb,(World.cell?_of_block (w:=A) (a:=⟨w.heap.size,0,none⟩) (hb w.heap.size (by omega) (by omega) (by omega) (by omega))).trans c0,(World.cell?_of_block (w:=A) (a:=⟨w.heap.size+1,0,none⟩) (hb (w.heap.size+1) (by omega) (by omega) (by omega) (by omega))).trans c1⟩
 case h0=>
  refine ⟨RowsI.start ((hb1.block _ (by omega)).trans HBx.out) (by omega) (HBl.out.trans (hb1.mono (by omega))),(hb1.cell (p:=⟨w.heap.size,0,none⟩) (by show w.heap.size<_;omega)).trans u0,(hb1.cell (p:=⟨w.heap.size+1,0,none⟩) (by show w.heap.size+1<_;omega)).trans u1⟩
 case hassign=>
  gi_wp2
  exact hK
 case hbody=>
  obtain ⟨⟨⟨v,xs,bx,ox,ax⟩,hszR,bel⟩,c0,c1⟩:=hi
  have htk:x.map (decR k w)∈prods (Sp.rowsOf T src):=by rw [HP.out];exact List.mem_map.2 ⟨x,hx.2.2,rfl⟩
  have HTk:=hid (hx.tkn hT2 bel hk)
  have HXt:=hid (HX.out _ htk)
  have HYt:=hid (HY.out _ htk)
  have HArn:=hid (HA.out.bel bel)
  have HF:Hid (((pre ++ [x]).map (·.map (decR k w))).flatMap (fun tk=>if hd tk then [cl tk] else [])=(pre.map (·.map (decR k w))).flatMap (fun tk=>if hd tk then [cl tk] else [])++(if hd (x.map (decR k w)) then [cl (x.map (decR k w))] else [])):=by show _=_;simp
  have hxl:xs.length<=1000:=by
   have h2:((pre.map (·.map (decR k w))).flatMap (fun tk=>if hd tk then [cl tk] else [])).length<=(pre.map (·.map (decR k w))).length:=flat_one _ _ (fun tk=>by split <;> simp)
   rw [List.length_map] at h2
   rw [ax.len];omega
  generalize x.map (decR k w)=tk at *
  generalize (pre.map (·.map (decR k w))).flatMap (fun tk=>if hd tk then [cl tk] else [])=R0 at *
  have HBx0:=hid bx
  have HOx:=hid ox
  have HAx:=hid ax
  have HBel:=hid bel
  have HWi:=hid (fun (A' : World) (g:Gr A A')=>with_any (HArn.out.gr g) (HTk.out.gr g))
  clear ax ox bel bx
  gi_wp2
  refine ⟨fun h=>(by cases h),?_⟩
  refine (CallsIn.inRound l (callsIn_wide.2 (HWi.out A (Gr.refl A)))).mono ?_
  rintro e A2 ⟨v2,rfl,arn2,g2⟩
  obtain ⟨ib,rfl,hib,_⟩:=arn2.ptr
  have HAr2:=hid arn2
  have G2:=hid g2
  have hwA:w.heap.size+2<A.heap.size:=HBx0.out.lt
  have d0:=(g2.cell (p:=⟨w.heap.size,0,none⟩) (by show w.heap.size<_;omega)).trans c0
  have hsA:sb<A.heap.size:=by omega
  have d4:=(g2.cell (p:=⟨sb,4,none⟩) hsA).trans ((HBel.out.cell (p:=⟨sb,4,none⟩) hsw).trans b4)
  have HBel2:Hid (RowKit.Below w.heap.size w A2):=HBel.out.trans (g2.below.mono HBel.out.size)
  clear arn2 g2
  gi_wp2
  refine ⟨fun h=>(by cases h),?_⟩
  refine (CallsIn.inRound l (callsIn_wide.2 (HXt.out A2 _ HBel2.out HAr2.out))).mono ?_
  rintro e A3 ⟨rfl,g3⟩
  have G3:=hid (G2.out.trans g3)
  have HAr3:=hid (HAr2.out.gr g3)
  have HBel3:Hid (RowKit.Below w.heap.size w A3):=HBel2.out.trans (g3.below.mono HBel2.out.size)
  have e0:=(g3.cell (p:=⟨w.heap.size,0,none⟩) (by show w.heap.size<_;have:=G2.out.size;omega)).trans d0
  clear g3 d0 d4
  by_cases hh:hd tk=true
  ·rw [hh]
   have HFt:Hid ((if hd tk=true then [cl tk] else []) = [cl tk]):=by show _=_;rw [if_pos hh]
   clear hh
   have hmx:=mixed
   have h1' : 1<=n - 1 - 1:=by omega
   obtain ⟨i0,ji,jz0,jz1,jz2⟩:=info_parts infoRowC
   have r3:=(boxed_of_gr HBx0.out G3.out).cell
   have hz3:=G3.out.size
   have HG3d:Hid (Gr A A3.drew):=G3.out.drew
   have HCl:=hid (HYt.out A3.drew _ (HBel3.out.drew) (HAr3.out.gr (Gr.refl A3).drew))
   gi_wp2
   refine wpIn_region_any (by assumption) ?_
   change wpAnyIn _ _ _ _ _ _ _ _ _ (World.drew _)
   refine wpAnyIn_ready (rs := [0,1,2]) (by kernel_rfl) (by simp) ?_
   refine AllReadyIn.cons rfl (fun K hK=>?_) ?_
   (go_simp;refine hK _ _ ?_;clear hK K)
   refine wpAnyIn_ready (rs := [1,2]) (by kernel_rfl) (by simp) ?_
   refine AllReadyIn.cons rfl (fun K hK=>?_) ?_
   (go_simp;refine hK _ _ ?_;clear hK K)
   refine wpAnyIn_ready (rs := [2]) (by kernel_rfl) (by simp) ?_
   refine AllReadyIn.cons rfl (fun K hK=>?_) ?_
   (go_simp;refine hK _ _ ?_;clear hK K)
   refine ?m111
   rotate_left
   exact AllReadyIn.nil
   refine AllReadyIn.cons rfl (fun K hK=>?_) ?_
   (go_simp;refine hK _ _ ?_;clear hK K)
   refine wpAnyIn_ready (rs := [1]) (by kernel_rfl) (by simp) ?_
   refine AllReadyIn.cons rfl (fun K hK=>?_) ?_
   (go_simp;refine hK _ _ ?_;clear hK K)
   exact ?m111
   exact AllReadyIn.nil
   exact AllReadyIn.nil
   refine AllReadyIn.cons rfl (fun K hK=>?_) ?_
   (go_simp;refine hK _ _ ?_;clear hK K)
   refine wpAnyIn_ready (rs := [0,2]) (by kernel_rfl) (by simp) ?_
   refine AllReadyIn.cons rfl (fun K hK=>?_) ?_
   (go_simp;refine hK _ _ ?_;clear hK K)
   refine wpAnyIn_ready (rs := [2]) (by kernel_rfl) (by simp) ?_
   refine AllReadyIn.cons rfl (fun K hK=>?_) ?_
   (go_simp;refine hK _ _ ?_;clear hK K)
   exact ?m111
   exact AllReadyIn.nil
   refine AllReadyIn.cons rfl (fun K hK=>?_) ?_
   (go_simp;refine hK _ _ ?_;clear hK K)
   refine ?m011
   rotate_left
   exact AllReadyIn.nil
   refine AllReadyIn.cons rfl (fun K hK=>?_) ?_
   (go_simp;refine hK _ _ ?_;clear hK K)
   refine wpAnyIn_ready (rs := [0,1]) (by kernel_rfl) (by simp) ?_
   refine AllReadyIn.cons rfl (fun K hK=>?_) ?_
   (go_simp;refine hK _ _ ?_;clear hK K)
   refine wpAnyIn_ready (rs := [1]) (by kernel_rfl) (by simp) ?_
   refine AllReadyIn.cons rfl (fun K hK=>?_) ?_
   (go_simp;refine hK _ _ ?_;clear hK K)
   exact ?m111
   exact AllReadyIn.nil
   refine AllReadyIn.cons rfl (fun K hK=>?_) ?_
   (go_simp;refine hK _ _ ?_;clear hK K)
   exact ?m011
   exact AllReadyIn.nil
   exact AllReadyIn.nil
   case m011=>
    refine wpAnyIn_ready (rs := [0,3]) (by kernel_rfl) (by simp) ?_
    refine AllReadyIn.cons rfl (fun K hK=>?_) ?_
    (go_simp;refine hK _ _ ?_;clear hK K)
    exact ?m111
    refine AllReadyIn.cons rfl (fun K hK=>?_) ?_
    (go_simp;refine (CallsIn.inRound l (callsIn_wide.2 HCl.out)).mono ?_;rintro e4 A4 ⟨gf,lb,rfl,hrf,g4⟩;have HRf:=hid hrf;have HG4:=hid (HG3d.out.trans g4);have r4:=(boxed_of_gr HBx0.out HG4.out).cell;have hz4:=HG4.out.size;clear hrf g4;refine hK _ _ ?_;clear hK K)
    refine wpAnyIn_ready (rs := [0,4]) (by kernel_rfl) (by simp) ?_
    refine AllReadyIn.cons rfl (fun K hK=>?_) ?_
    (go_simp;refine hK _ _ ?_;clear hK K)
    refine wpAnyIn_ready (rs := [4]) (by kernel_rfl) (by simp) ?_
    refine AllReadyIn.cons rfl (fun K hK=>?_) ?_
    (go_simp;refine (CallsIn.inRound l (callsIn_wide.2 HRf.out)).mono ?_;rintro e5 A5 ⟨u,rfl,ou,bu⟩;obtain ⟨ua,uc,rfl⟩:=ou.sl;obtain ⟨r5,g',c',W4,HPu,hap,q4,q5⟩:=sel_append HBx0.out HOx.out HAx.out HBel.out hsz hxl (by omega) HG3d.out.below HG3d.out.size bu ou i0 ji jz0 jz1 jz2;have hz5:w.heap.size+2<A5.heap.size:=cell_lt r5;clear ou bu;refine hK _ _ ?_;clear hK K)
    refine wpAnyIn_ready (rs := [5]) (by kernel_rfl) (by simp) ?_
    refine AllReadyIn.cons rfl (fun K hK=>?_) ?_
    (go_simp;refine hK _ _ ?_;clear hK K)
    refine wpAnyIn_ready (rs := [6]) (by kernel_rfl) (by simp) ?_
    refine AllReadyIn.cons rfl (fun K hK=>?_) ?_
    (refine stepIn_append hap (.tmp 27) (.tmp 32) (by rfl) (by rfl) (by rfl) (by rfl) (by rfl) ?_;refine hK _ _ ?_;clear hK K)
    refine wpAnyIn_ready (rs := [7]) (by kernel_rfl) (by simp) ?_
    refine AllReadyIn.cons rfl (fun K hK=>?_) ?_
    (go_simp;refine hK _ _ ?_;clear hK K)
    (refine wpAnyIn_done (by kernel_rfl) ?_ _;gi_wp2;exact ⟨HPu.out.2,by rw [HF.out,HFt.out];exact HPu.out.1,(HPu.out.2.cell (p:=⟨w.heap.size,0,none⟩) (by show w.heap.size<_;omega) ⟨by show w.heap.size<_;omega,by show w.heap.size≠_;omega⟩).trans c0,(HPu.out.2.cell (p:=⟨w.heap.size+1,0,none⟩) (by show w.heap.size+1<_;omega) ⟨by show w.heap.size+1<_;omega,by show w.heap.size+1≠_;omega⟩).trans c1⟩)
    exact AllReadyIn.nil
    exact AllReadyIn.nil
    exact AllReadyIn.nil
    exact AllReadyIn.nil
    refine AllReadyIn.cons rfl (fun K hK=>?_) ?_
    (go_simp;refine (CallsIn.inRound l (callsIn_wide.2 HRf.out)).mono ?_;rintro e5 A5 ⟨u,rfl,ou,bu⟩;obtain ⟨ua,uc,rfl⟩:=ou.sl;obtain ⟨r5,g',c',W4,HPu,hap,q4,q5⟩:=sel_append HBx0.out HOx.out HAx.out HBel.out hsz hxl (by omega) HG3d.out.below HG3d.out.size bu ou i0 ji jz0 jz1 jz2;have hz5:w.heap.size+2<A5.heap.size:=cell_lt r5;clear ou bu;refine hK _ _ ?_;clear hK K)
    refine wpAnyIn_ready (rs := [0,5]) (by kernel_rfl) (by simp) ?_
    refine AllReadyIn.cons rfl (fun K hK=>?_) ?_
    (go_simp;refine hK _ _ ?_;clear hK K)
    refine wpAnyIn_ready (rs := [5]) (by kernel_rfl) (by simp) ?_
    refine AllReadyIn.cons rfl (fun K hK=>?_) ?_
    (go_simp;refine hK _ _ ?_;clear hK K)
    refine wpAnyIn_ready (rs := [6]) (by kernel_rfl) (by simp) ?_
    refine AllReadyIn.cons rfl (fun K hK=>?_) ?_
    (refine stepIn_append hap (.tmp 27) (.tmp 32) (by rfl) (by rfl) (by rfl) (by rfl) (by rfl) ?_;refine hK _ _ ?_;clear hK K)
    refine wpAnyIn_ready (rs := [7]) (by kernel_rfl) (by simp) ?_
    refine AllReadyIn.cons rfl (fun K hK=>?_) ?_
    (go_simp;refine hK _ _ ?_;clear hK K)
    (refine wpAnyIn_done (by kernel_rfl) ?_ _;gi_wp2;exact ⟨HPu.out.2,by rw [HF.out,HFt.out];exact HPu.out.1,(HPu.out.2.cell (p:=⟨w.heap.size,0,none⟩) (by show w.heap.size<_;omega) ⟨by show w.heap.size<_;omega,by show w.heap.size≠_;omega⟩).trans c0,(HPu.out.2.cell (p:=⟨w.heap.size+1,0,none⟩) (by show w.heap.size+1<_;omega) ⟨by show w.heap.size+1<_;omega,by show w.heap.size+1≠_;omega⟩).trans c1⟩)
    exact AllReadyIn.nil
    exact AllReadyIn.nil
    exact AllReadyIn.nil
    refine AllReadyIn.cons rfl (fun K hK=>?_) ?_
    (go_simp;refine hK _ _ ?_;clear hK K)
    refine wpAnyIn_ready (rs := [0]) (by kernel_rfl) (by simp) ?_
    refine AllReadyIn.cons rfl (fun K hK=>?_) ?_
    (go_simp;refine hK _ _ ?_;clear hK K)
    refine wpAnyIn_ready (rs := [6]) (by kernel_rfl) (by simp) ?_
    refine AllReadyIn.cons rfl (fun K hK=>?_) ?_
    (refine stepIn_append hap (.tmp 27) (.tmp 32) (by rfl) (by rfl) (by rfl) (by rfl) (by rfl) ?_;refine hK _ _ ?_;clear hK K)
    refine wpAnyIn_ready (rs := [7]) (by kernel_rfl) (by simp) ?_
    refine AllReadyIn.cons rfl (fun K hK=>?_) ?_
    (go_simp;refine hK _ _ ?_;clear hK K)
    (refine wpAnyIn_done (by kernel_rfl) ?_ _;gi_wp2;exact ⟨HPu.out.2,by rw [HF.out,HFt.out];exact HPu.out.1,(HPu.out.2.cell (p:=⟨w.heap.size,0,none⟩) (by show w.heap.size<_;omega) ⟨by show w.heap.size<_;omega,by show w.heap.size≠_;omega⟩).trans c0,(HPu.out.2.cell (p:=⟨w.heap.size+1,0,none⟩) (by show w.heap.size+1<_;omega) ⟨by show w.heap.size+1<_;omega,by show w.heap.size+1≠_;omega⟩).trans c1⟩)
    exact AllReadyIn.nil
    exact AllReadyIn.nil
    exact AllReadyIn.nil
    exact AllReadyIn.nil
    exact AllReadyIn.nil
    exact AllReadyIn.nil
   case m111=>
    refine wpAnyIn_ready (rs := [3]) (by kernel_rfl) (by simp) ?_
    refine AllReadyIn.cons rfl (fun K hK=>?_) ?_
    (go_simp;refine (CallsIn.inRound l (callsIn_wide.2 HCl.out)).mono ?_;rintro e4 A4 ⟨gf,lb,rfl,hrf,g4⟩;have HRf:=hid hrf;have HG4:=hid (HG3d.out.trans g4);have r4:=(boxed_of_gr HBx0.out HG4.out).cell;have hz4:=HG4.out.size;clear hrf g4;refine hK _ _ ?_;clear hK K)
    refine wpAnyIn_ready (rs := [4]) (by kernel_rfl) (by simp) ?_
    refine AllReadyIn.cons rfl (fun K hK=>?_) ?_
    (go_simp;refine (CallsIn.inRound l (callsIn_wide.2 HRf.out)).mono ?_;rintro e5 A5 ⟨u,rfl,ou,bu⟩;obtain ⟨ua,uc,rfl⟩:=ou.sl;obtain ⟨r5,g',c',W4,HPu,hap,q4,q5⟩:=sel_append HBx0.out HOx.out HAx.out HBel.out hsz hxl (by omega) HG3d.out.below HG3d.out.size bu ou i0 ji jz0 jz1 jz2;have hz5:w.heap.size+2<A5.heap.size:=cell_lt r5;clear ou bu;refine hK _ _ ?_;clear hK K)
    refine wpAnyIn_ready (rs := [5]) (by kernel_rfl) (by simp) ?_
    refine AllReadyIn.cons rfl (fun K hK=>?_) ?_
    (go_simp;refine hK _ _ ?_;clear hK K)
    refine wpAnyIn_ready (rs := [6]) (by kernel_rfl) (by simp) ?_
    refine AllReadyIn.cons rfl (fun K hK=>?_) ?_
    (refine stepIn_append hap (.tmp 27) (.tmp 32) (by rfl) (by rfl) (by rfl) (by rfl) (by rfl) ?_;refine hK _ _ ?_;clear hK K)
    refine wpAnyIn_ready (rs := [7]) (by kernel_rfl) (by simp) ?_
    refine AllReadyIn.cons rfl (fun K hK=>?_) ?_
    (go_simp;refine hK _ _ ?_;clear hK K)
    (refine wpAnyIn_done (by kernel_rfl) ?_ _;gi_wp2;exact ⟨HPu.out.2,by rw [HF.out,HFt.out];exact HPu.out.1,(HPu.out.2.cell (p:=⟨w.heap.size,0,none⟩) (by show w.heap.size<_;omega) ⟨by show w.heap.size<_;omega,by show w.heap.size≠_;omega⟩).trans c0,(HPu.out.2.cell (p:=⟨w.heap.size+1,0,none⟩) (by show w.heap.size+1<_;omega) ⟨by show w.heap.size+1<_;omega,by show w.heap.size+1≠_;omega⟩).trans c1⟩)
    exact AllReadyIn.nil
    exact AllReadyIn.nil
    exact AllReadyIn.nil
    exact AllReadyIn.nil
    exact AllReadyIn.nil
  ·have hh' : hd tk=false:=by simpa using hh
   rw [hh']
   have HFt:Hid ((if hd tk=true then [cl tk] else []) = []):=by show _=_;rw [if_neg hh]
   clear hh hh'
   gi_wp2
   refine ⟨Fr.of_gr G3.out,?_,e0,(G3.out.cell (p:=⟨w.heap.size+1,0,none⟩) (by show w.heap.size+1<_;omega)).trans c1⟩
   rw [HF.out,HFt.out,List.append_nil]
   exact ⟨⟨v,xs,boxed_of_gr HBx0.out G3.out,ownsV_below HOx.out G3.out.below,HAx.out.mono fun a b h=>h.bel G3.out.below⟩,Nat.le_trans hszR (Nat.add_le_add_right G3.out.size 1),HBel3.out⟩
 case hdone=>
  obtain ⟨⟨⟨v,xs,bx,ox,ax⟩,hszR,bel⟩,c0,c1⟩:=hi
  have hE:((prods tabs).map (·.map (decR k w))).flatMap (fun tk=>if hd tk then [cl tk] else [])=(prods (Sp.rowsOf T src)).flatMap (fun tk=>if hd tk then [cl tk] else []):=by rw [HP.out]
  rw [hE] at ax
  have hlr:((prods (Sp.rowsOf T src)).flatMap (fun tk=>if hd tk then [cl tk] else [])).length<=1000:=by
   have:=flat_one (fun tk=>if hd tk then [cl tk] else []) (prods (Sp.rowsOf T src)) (fun tk=>by split <;> simp)
   omega
  have hwr:∀ r∈(prods (Sp.rowsOf T src)).flatMap (fun tk=>if hd tk then [cl tk] else []),r.length=wd:=by
   intro r hr
   obtain ⟨tk,h1,h2⟩:=List.mem_flatMap.1 hr
   split at h2
   ·simp at h2;rw [h2];exact HWd.out tk h1
   ·simp at h2
  clear hE
  obtain ⟨R0,hR0⟩:∃ R0,R0=(prods (Sp.rowsOf T src)).flatMap (fun tk=>if hd tk then [cl tk] else []):=⟨_,rfl⟩
  have HR0:=hid hR0
  rw [<- hR0] at ax hlr hwr
  clear hR0
  have GA:=hid ((Gr.refl A).alloc (.cells #[v] 32))
  have HL:Hid (Lrs (fun _=>True) (A.alloc (.cells #[v] 32)) v R0):=Lrs.bel ⟨xs,SlV.owned ox,ax.mono fun a b h=>h.to fun _ _ _=>trivial⟩ GA.out.below
  have HS:=hid (sorted_any (C:=fun _=>True) (b:=A.heap.size) (off:=0) (n:=1) (c:=1) (k:=wd) (vs := [v]) (rss := [R0]) (w:=A.alloc (.cells #[v] 32)) rfl rfl (by simp) (fun j hj=>by obtain rfl:j=0:=(by simpa using hj);simp) (fun j hj=>by obtain rfl:j=0:=(by simpa using hj);exact HL.out) (by simpa using (by omega:R0.length<=100000)) (by omega) hwb (by simpa using hwr))
  simp only [List.flatten_cons,List.flatten_nil,List.append_nil] at HS
  obtain ⟨va,vn,vc,rfl⟩:∃ a n c,v = .slice a n c:=by
   rcases SlV.owned ox with ⟨e,_⟩ | ⟨b,o,c,e,_⟩
   ·exact ⟨_,_,_,e⟩
   ·exact ⟨_,_,_,e⟩
  have HBx2:=hid bx
  have HBel:=hid bel
  have hwA:w.heap.size+2<A.heap.size:=bx.lt
  have r0:=bx.cell
  have hDA:w1.heap.size<A.heap.size:=(Array.getElem?_eq_some_iff.1 hdf).1
  have HDf:=hid hdf
  have a0:A.cell? ⟨sb,0,none⟩=some (.bool false):=(bel.cell (p:=⟨sb,0,none⟩) hsw).trans b0
  have hsA:sb<A.heap.size:=by omega
  clear bx ox ax bel hdf hlr hwr
  gi_wp2
  refine (callsIn_wide.2 HS.out).mono ?_
  rintro e A6 ⟨u,rfl,hu,g6⟩
  have G6:=hid (GA.out.trans g6)
  obtain ⟨ua,uc,rfl⟩:=hu.sl
  have B6:=boxed_of_gr HBx2.out G6.out
  have HRs:Hid (RsO (A.heap.size+1) wd (A6.setCell ⟨w.heap.size+2,0,none⟩ (.slice ua (sortR R0).length uc)) (.slice ua (sortR R0).length uc) (sortR R0)):=by
   have h2:RsO (A.heap.size+1) wd A6 (.slice ua (sortR R0).length uc) (sortR R0):=by simpa using hu
   exact h2.other (boxed_noint B6) (by omega) (by simp [World.setCell]) fun j _ hj=>Below.heap_setCell _ _ _ _ hj
  have HB7:=hid (B6.set (.slice ua (sortR R0).length uc))
  have q0:=B6.cell
  have q1:=B6.frozen
  have q2:=HB7.out.cell
  have q3:=(G6.out.cell (p:=⟨w.heap.size,0,none⟩) (by show w.heap.size<_;omega)).trans c0
  have q4:=(G6.out.cell (p:=⟨sb,0,none⟩) hsA).trans a0
  have HDf7:Hid ((A6.setCell ⟨w.heap.size+2,0,none⟩ (.slice ua (sortR R0).length uc)).heap[w1.heap.size]?=some (.deferred (some []))):=(Below.heap_setCell _ _ _ _ (show w1.heap.size≠w.heap.size+2 by omega)).trans ((G6.out.below.block _ hDA).trans HDf.out)
  have HBl7:Hid (RowKit.Below w.heap.size w (A6.setCell ⟨w.heap.size+2,0,none⟩ (.slice ua (sortR R0).length uc))):=(HBel.out.trans (G6.out.below.mono HBel.out.size)).setCell (p:=⟨w.heap.size+2,0,none⟩) (show w.heap.size<=w.heap.size+2 by omega) _
  have hsbn:sb≠w.heap.size+2:=by omega
  have h6z:=G6.out.size
  clear hu g6 GA HS HL
  gi_wp2
  have hDf:=HDf7.out
  refine ⟨by simp, .inl ⟨_,_,rfl,run_takeDeferred hDf,?_⟩⟩
  refine ⟨.slice ua (sortR R0).length uc,by simp [results,Tryz.f154,go_sem],_,rfl,?_,HBl7.out.trans (belowK_b (w:=w) (Nat.le_refl _) _ w1.heap.size _ _ (by omega) hDf rfl rfl)⟩
  rw [<- HR0.out]
  exact (HRs.out.other (def_noint hDf) (by omega) (by simp) fun j _ hj=>World.putObj_heap_other hj).lower (by omega)
end Go.Proofs.YtgnncnhkgmhngaaGreatDoor
