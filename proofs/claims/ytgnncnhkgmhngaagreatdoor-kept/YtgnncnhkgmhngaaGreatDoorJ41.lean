import Derived.Test.YtgnncnhkgmhngaaGreatDoorJ40
import Derived.OrdersHeld
set_option maxHeartbeats 4000000
set_option maxRecDepth 100000
namespace Go.Proofs.YtgnncnhkgmhngaaGreatDoor
open Go.RowKit Go.Sort
abbrev enRes (err at_ width:Int) (rv:Value) (count:Int):Value := .agg #[.int .i64 err, .int .i64 at_, .int .i64 width,rv, .int .i64 count]
theorem tfindC {C:Nat→Prop} {w:World} {T:List Sp.Tb} {v:Value} {x:Sp.Bs} {t:Sp.Tb} (h:TbsC C w T v) (hf:Sp.findTb x T=some t) :
  ∃ tv,Tb1C C w t tv∧∀ w1,RowKit.Below w.heap.size w w1→Calls Tryz.prog 146 #[v, .string (bz x)] w1 fun e w'=>e = .returned (.tuple #[enT tv, .bool true])∧Gr w1 w':=by
 rcases h.2 with ⟨rfl,rfl⟩ | ⟨b,off,c,V,rfl,hC,hl,ha⟩
 ·simp [Sp.findTb] at hf
 ·have key:∀ (T:List Sp.Tb) (V:List TV),Al (Tb1C C w) T V→Sp.findTb x T=some t→∃ tv,findT x V=some tv∧Tb1C C w t tv:=by
   intro T
   induction T with
   | nil=>intro V _ hf;simp [Sp.findTb] at hf
   | cons u T ih=>
    intro V ha hf
    match V,ha with
    | v::V,ha=>
     have e:v.name.toList=u.name:=by rw [ha.1.name,bz_list]
     rw [Sp.findTb] at hf
     simp only [findT,e]
     cases hx:(u.name == x)
     ·rw [hx] at hf;simpa using ih V ha.2 (by simpa using hf)
     ·rw [hx] at hf
      simp only [if_true,Option.some.injEq] at hf
      subst hf
      exact ⟨v,by simp,ha.1⟩
  obtain ⟨tv,e1,e2⟩:=key T V ha hf
  refine ⟨tv,e2,fun w1 g=>?_⟩
  have F:=find_any b off T.length c V (bz x) w1 ha.len (by have:=h.1;omega) (hl.blk g.size (g.block b hl.lb))
  rw [bz_list,e1] at F
  exact F
theorem TbsC.to {C D:Nat→Prop} {w:World} {T:List Sp.Tb} {v:Value} (h:TbsC C w T v) (hd:∀ b,C b→b<w.heap.size→D b):TbsC D w T v:=by
 refine ⟨h.1,?_⟩
 rcases h.2 with h | ⟨b,off,c,V,ev,hC,hl,ha⟩
 ·exact .inl h
 ·exact .inr ⟨b,off,c,V,ev,hd b hC hl.lb,hl,ha.mono fun t V h=>h.to hd⟩
theorem Bk.five {w:World} {q:Nat} {x0 x1 x2 x3 x4:Value} (h:Bk w q [x0,x1,x2,x3,x4]):(w.cell? ⟨q,0,none⟩=some x0∧w.cell? ⟨q,1,none⟩=some x1∧w.cell? ⟨q,2,none⟩=some x2∧w.cell? ⟨q,3,none⟩=some x3∧w.cell? ⟨q,4,none⟩=some x4)∧w.frozen? ⟨q,0,none⟩=false∧w.frozen? ⟨q,1,none⟩=false∧w.frozen? ⟨q,2,none⟩=false∧w.frozen? ⟨q,3,none⟩=false∧w.frozen? ⟨q,4,none⟩=false:=
 ⟨⟨h.c 0 (by simp),h.c 1 (by simp),h.c 2 (by simp),h.c 3 (by simp),h.c 4 (by simp)⟩,h.f 0,h.f 1,h.f 2,h.f 3,h.f 4⟩
theorem heap_set5 {w:World} {q j:Nat} (h:j≠q) (a b c d e:Value):(((((w.setCell ⟨q,0,none⟩ a).setCell ⟨q,1,none⟩ b).setCell ⟨q,2,none⟩ c).setCell ⟨q,3,none⟩ d).setCell ⟨q,4,none⟩ e).heap[j]?=w.heap[j]?:=
 (Below.heap_setCell _ _ _ _ h).trans ((Below.heap_setCell _ _ _ _ h).trans ((Below.heap_setCell _ _ _ _ h).trans ((Below.heap_setCell _ _ _ _ h).trans (Below.heap_setCell _ _ _ _ h))))
theorem below_set5 {n:Nat} {v w:World} {q:Nat} (h:RowKit.Below n v w) (hq:n≤q) (a b c d e:Value):RowKit.Below n v (((((w.setCell ⟨q,0,none⟩ a).setCell ⟨q,1,none⟩ b).setCell ⟨q,2,none⟩ c).setCell ⟨q,3,none⟩ d).setCell ⟨q,4,none⟩ e):=
 ((((h.setCell (p:=⟨q,0,none⟩) hq _).setCell (p:=⟨q,1,none⟩) hq _).setCell (p:=⟨q,2,none⟩) hq _).setCell (p:=⟨q,3,none⟩) hq _).setCell (p:=⟨q,4,none⟩) hq _
theorem with_tbs {D:Nat→Prop} {w w' : World} {T:List Sp.Tb} {t:Sp.Tb} {VL:List TV} {V:TV} {v' : Value} (hD:∀ j,w.heap.size≤j→D j) (ha:Al (Tb1C D w) T VL) (hV:Tb1C D w t V) (o:OwT w.heap.size w' v' (keptT V.name.toList VL ++ [V])) (hb:RowKit.Below w.heap.size w w') (hl:VL.length≤899):TbsC D w' (Sp.withT t T) v':=by
 have e:V.name.toList=t.name:=by rw [hV.name,bz_list]
 rw [e] at o
 have h2:(keptT t.name VL).length≤VL.length:=keptT_le _ _
 refine TbsC.owned o hD ?_ (by simp;omega)
 exact ((keptT_al t.name ha).mono fun _ _ h=>h.bel hb).app ⟨hV.bel hb,trivial⟩
theorem InV.bel {w w' : World} {a:Nat} {nm:Sp.Nm} {ns:List (Nat×Sp.Nd)} {lo hi:Nat} {v:Value} (h:InV w a nm ns lo hi v) (g:RowKit.Below w.heap.size w w') (hh:hi≤w.heap.size):InV w' a nm ns lo hi v:=by
 obtain ⟨q,sl,e,a1,a2,hA,hL⟩:=h
 exact ⟨q,sl,e,a1,a2,hA.same g.size (g.block q hA.1),hL.frame (fun n x m1 m2 h hk=>RowP.frame g.size n x m1 m2 h hk) fun k _ h2=>g.block k (by omega)⟩
theorem rinsert_any {C:Nat→Prop} {T:List Sp.Tb} {t:Sp.Tb} {N a hi lo:Nat} {nm:Sp.Nm} {ns:List (Nat×Sp.Nd)} {tv pv:Value} {w:World} (hC:∀ j,w.heap.size≤j→C j) (ht:TbsC C w T tv) (hf:Sp.findTb nm.1 T=some t) (hrN:t.rows.length≤100) (hN:N≤90000) (hI:InV w a nm ns lo hi pv) (hh:hi≤w.heap.size) (hn:ns.length≤800)
  (hw:∀ x∈ns,Sp.wf N x.2 .list∧1≤x.2.len∧x.2.len≤N∧Sp.plain x.2=true∧Sp.bd T x.2 []) (hTl:T.length≤800) :
  Calls Tryz.prog 89 #[tv,pv] w fun e w'=>∃ v,e = .returned v∧(∃ tv',(100<t.rows.length+ns.length∧v = .tuple #[tv,enRes 8 0 0 (.slice none 0 0) 0])∨(t.rows.length+ns.length≤100∧v = .tuple #[tv',enRes 0 0 0 (.slice none 0 0) (ns.length:Nat)]∧TbsC C w' (Sp.withT { t with rows:=t.rows++ns.map fun x=>(Sp.rn T x.2 []).headD [] } T) tv'))∧RowKit.Below w.heap.size w w':=by
 have ht:=ht.to (D:=fun b=>(C b∧b<w.heap.size)∨w.heap.size+1≤b) fun b h1 h2 => .inl ⟨h1,h2⟩
 obtain ⟨V,hV,hFd⟩:=tfindC ht hf
 have HT:=hid ht
 have HFd:=hid hFd
 have HV:=hid hV
 have HI:=hid hI
 obtain ⟨q,sl,rfl,l1,l2,hA,_⟩:=hI
 have b1:=hA.k1
 have hqw:=hA.1
 obtain ⟨ta,tn,tc,rfl⟩:∃ a n c,tv = .slice a n c:=by
  rcases ht.2 with ⟨_,e⟩ | ⟨b,off,c,V,e,_⟩
  ·exact ⟨_,_,_,e⟩
  ·exact ⟨_,_,_,e⟩
 have HW:=hid hw
 have HC:=hid hC
 have hrl:=hV.rl
 obtain ⟨R,hR⟩:∃ R,R=t.rows.length:=⟨_,rfl⟩
 have HR:=hid hR
 rw [← hR] at hrl hrN
 obtain ⟨n,hnn⟩:∃ n,n=ns.length:=⟨_,rfl⟩
 have HN:=hid hnn
 rw [← hnn] at hn
 rw [← hR,← hnn]
 clear ht hV hFd hA hw hC hR hnn
 obtain ⟨vn,ca,cl,cc,ra,rl,rc⟩:=V
 simp only [] at hrl
 subst hrl
 go_enter Tryz.func89,Tryz.ntmps89
 have G0:=hid ((Gr.refl w).alloc (.cells #[.int .i64 0, .int .i64 0, .int .i64 0, .slice none 0 0, .int .i64 0] 56))
 go_wp2_with fail
 refine (HFd.out _ G0.out.below).mono ?_
 rintro e w1 ⟨rfl,g1⟩
 have G1:=hid (G0.out.trans g1)
 have HG01:=hid g1
 have G2:=hid ((G0.out.trans g1).alloc (.cells #[.string vn, .slice ca cl cc, .slice ra rl rc] 187))
 have HNr:=hid (newRows_any (ta:=ta) (tn:=tn) (tc:=tc) hN (HI.out.bel G2.out.below hh) (Nat.le_trans hh G2.out.size) (by have:=HN.out;omega) HW.out)
 clear g1
 go_wp2_with fail
 refine HNr.out.mono ?_
 rintro e w3 ⟨av,rfl,⟨xs,o3,a3⟩,b3⟩
 have hxn:xs.length=n:=by rw [a3.len,List.length_map];exact HN.out.symm
 obtain ⟨xa,xc,rfl⟩:∃ a c,av = .slice a n c:=by
  obtain ⟨_,h | ⟨g',cap,cur,hv,_⟩⟩:=o3
  ·exact ⟨none,0,by rw [h.1,← hxn,h.2]⟩
  ·exact ⟨_,_,by rw [← hxn];exact hv⟩
 have HO3:Hid (w3.ownsRow (w1.heap.size+1) 41 1 (.slice xa n xc) n xs):=by
  show World.ownsRow _ _ _ _ _ _ _
  rw [hxn] at o3
  simpa using o3
 have HA3:=hid a3
 have HB3:Hid (RowKit.Below w.heap.size w w3):=G2.out.below.trans (b3.mono G2.out.size)
 have HBx:=hid b3
 have HT3:Hid (B3 w3 w1.heap.size (.string vn) (.slice ca cl cc) (.slice ra rl rc)):=(B3.new w1 _ _ _ _).same b3.size (b3.block _ (by simp))
 obtain ⟨t0,t1,t2,t3,t4,t5,t6⟩:=HT3.out
 have hz1:=G1.out.size
 clear o3 a3 b3 HNr hxn
 have HB5:Hid (Bk w3 w.heap.size [.int .i64 0, .int .i64 0, .int .i64 0, .slice none 0 0, .int .i64 0]):=by
  have h1:=Bk.new w #[.int .i64 0, .int .i64 0, .int .i64 0, .slice none 0 0, .int .i64 0] 56
  have hlt:w.heap.size<w1.heap.size:=by have:=HG01.out.size;simp at this;omega
  have h2:Bk w1 w.heap.size [.int .i64 0, .int .i64 0, .int .i64 0, .slice none 0 0, .int .i64 0]:=h1.below HG01.out.below
  exact (h2.alloc _).below HBx.out
 obtain ⟨⟨k0,k1,k2,k3,k4⟩,f0,f1,f2,f3,f4⟩:=HB5.out.five
 by_cases hgt:100<rl+n
 ·go_wp2_with fail
  refine bodyPost_ret (v := .tuple #[.slice ta tn tc,enRes 8 0 0 (.slice none 0 0) 0]) (by simp [results,Tryz.results89,go_sem,k0,k1,k2,k3,k4]) rfl ⟨_,rfl,⟨.slice ta tn tc, .inl ⟨hgt,rfl⟩⟩,?_⟩
  exact below_set5 HB3.out (Nat.le_refl _) _ _ _ _ _
 ·have GA3:=hid ((Gr.refl w3).alloc (.cells #[.slice ra rl rc, .slice xa n xc] 32))
  have HTC:Hid (TbsC (fun b=>(C b∧b<w.heap.size)∨w.heap.size+1≤b) w3 T (.slice ta tn tc)):=HT.out.bel HB3.out
  have HV3:Hid (Tb1C (fun b=>(C b∧b<w.heap.size)∨w.heap.size+1≤b) w3 t ⟨vn,ca,cl,cc,ra,rl,rc⟩):=HV.out.bel HB3.out
  have hz3:=HB3.out.size
  have hlw:w.heap.size+1≤w1.heap.size:=by have:=HG01.out.size;simpa using this
  have HHv:=hid (having_any (C:=fun b=>(C b∧b<w.heap.size)∨w.heap.size+1≤b) (b:=w3.heap.size) (off:=0) (n:=2) (c:=2) (vs := [.slice ra rl rc, .slice xa n xc]) (rss := [t.rows,ns.map fun x=>(Sp.rn T x.2 []).headD []]) (w:=w3.alloc (.cells #[.slice ra rl rc, .slice xa n xc] 32)) (fun j hj => .inr (by have:=GA3.out.size;omega)) (HV3.out.bel GA3.out.below) rfl rfl (by simp)
   (fun j hj=>by
    match j,hj with
    | 0,_=>simp
    | 1,_=>simp)
   (fun j hj=>by
    match j,hj with
    | 0,_=>exact (HV3.out.lrs).bel GA3.out.below
    | 1,_=>
     refine Lrs.bel ⟨xs,?_,HA3.out.mono fun a b h=>h.to fun b hb _ => .inr ?_⟩ GA3.out.below
     ·have ho:=HO3.out
      have hxl:xs.length=n:=by have:=ho.1;omega
      rw [← hxl] at ho ⊢
      exact SlV.owned ho
     ·have:w1.heap.size+1≤b:=by simpa using hb
      omega)
   (by simp;have:=HR.out;have:=HN.out;omega) (by omega))
  go_wp2_with fail
  refine HHv.out.mono ?_
  rintro e w4 ⟨v4,rfl,⟨V4,rfl,hV4⟩,b4⟩
  rw [show [t.rows,ns.map fun x=>(Sp.rn T x.2 []).headD []].flatten=t.rows++ns.map fun x=>(Sp.rn T x.2 []).headD [] by simp] at hV4
  have HB4:Hid (RowKit.Below w3.heap.size w3 w4):=GA3.out.below.trans (b4.mono GA3.out.size)
  have HT4:Hid (TbsC (fun b=>(C b∧b<w.heap.size)∨w.heap.size+1≤b) w4 T (.slice ta tn tc)):=HTC.out.bel HB4.out
  obtain ⟨VL,hVL,hAL,hLL⟩:=HT4.out.ltv
  have hLT:VL.length=T.length:=hAL.len.symm
  have HWi:=hid (twith_any (t:=V4) hVL (by omega))
  have HV4:=hid hV4
  have HAL:=hid hAL
  clear hV4 b4 hVL hAL HHv
  go_wp2_with fail
  refine HWi.out.mono ?_
  rintro e w5 ⟨v5,rfl,o5,b5⟩
  have HTF:=hid (with_tbs (fun j hj => .inr (by have:=HB4.out.size;omega)) HAL.out HV4.out o5 b5 (by omega))
  have HBw5:Hid (RowKit.Below w3.heap.size w3 w5):=HB4.out.trans (b5.mono HB4.out.size)
  have HB6:=hid (HB5.out.below HBw5.out)
  obtain ⟨⟨p0,p1,p2,p3,p4⟩,g0,g1,g2,g3,g4⟩:=HB6.out.five
  obtain ⟨va5,vn5,vc5,rfl⟩:∃ a n c,v5 = .slice a n c:=by obtain ⟨a,c,h⟩:=o5.sl;exact ⟨_,_,_,h⟩
  clear o5 b5 HWi
  go_wp2_with fail
  refine bodyPost_ret (v := .tuple #[.slice va5 vn5 vc5,enRes 0 0 0 (.slice none 0 0) (n:Nat)]) (by simp [results,Tryz.results89,go_sem,p0,p1,p2,p3,p4]) rfl ⟨_,rfl,⟨.slice va5 vn5 vc5, .inr ⟨by omega,rfl,?_⟩⟩,?_⟩
  ·refine (HTF.out.blk (by simp [World.setCell]) fun b hb _=>heap_set5 (show b≠w.heap.size by rcases hb with hb | hb <;> omega) _ _ _ _ _).to fun b hb _=>?_
   rcases hb with hb | hb
   ·exact hb.1
   ·exact HC.out b (by omega)
  ·exact below_set5 (HB3.out.trans (HBw5.out.mono HB3.out.size)) (Nat.le_refl _) _ _ _ _ _
theorem upon_in {l n:Nat} {P:Program} {o:Oper} {a:Act} {K:Act→World→Prop} {Q:Exit→Act→World→Prop} {r:Result Next} (h:o.upon P a K Q r):o.uponIn (Fence.wide.inRound l) n P a K Q r:=by
 cases r with
 | ok x w'=>
  cases x with
  | value v=>exact h
  | skip=>exact h
  | defer d=>exact h
  | enter f args=>exact ⟨fun hd=>(by cases hd),CallsIn.inRound l (callsIn_wide.2 h)⟩
  | row row args=>
   refine ⟨fun hd=>(by cases hd),fun c cs _=>?_⟩
   obtain ⟨v,w2,r1,r2⟩:=h c cs
   exact ⟨v,w2,r1,stepsIn_wide.2 r2⟩
  | _=>exact h.elim
 | halt x w'=>
  cases x with
  | panic v=>exact h
  | _=>exact h.elim
theorem wp_in {l n:Nat} {P:Program} {o:Oper} {a:Act} {w:World} {K:Act→World→Prop} {Q:Exit→Act→World→Prop} (hnd:∀ c,o.op ≠ .defer c) (h:o.wp P a w K Q):o.wpIn (Fence.wide.inRound l) n P a w K Q:=by
 refine ⟨fun _ _=>trivial,?_⟩
 rw [Oper.semAt_plain _ _ _ hnd]
 exact upon_in h
theorem wpAny_in {l n:Nat} {P:Program} {md:Region.Mode} {ops:Array Oper} {Q:Exit→Act→World→Prop} (hlo:¬ LetsOut Q) (hnd:∀ (j:Nat) (o:Oper),ops[j]?=some o→∀ c,o.op ≠ .defer c):∀ (fuel:Nat) (listed:Array Bool) (a:Act) (w:World),wpAny P md ops Q fuel listed a w→wpAnyIn (Fence.wide.inRound l) n P md ops Q fuel listed a w
 | 0,_,_,_,h=>h
 | fuel+1,listed,a,w,h=>by
  refine ⟨h.1,fun i hi=>?_⟩
  have h2:=wpOp_mono (fun a' w' h'=>wpAny_in (l:=l) (n:=n) hlo hnd fuel _ a' w' h') (h.2 i hi)
  unfold wpOp at h2
  unfold wpOpIn
  cases ho:ops[i]? with
  | none=>rw [ho] at h2;exact h2
  | some o=>
   rw [ho] at h2
   simp only [] at h2 ⊢
   split
   ·rename_i hw
    rw [if_pos hw] at h2
    exact wp_in (hnd i o ho) (h2.resolve_right fun h=>hlo h.2)
   ·rename_i hw
    rw [if_neg hw] at h2
    exact ⟨fun _ _=>trivial,h2⟩
def noDefer (o:Oper):Bool:=match o.op with | .defer _=>false | _=>true
theorem wpIn_region_heldR {l n:Nat} {P:Program} {id:Nat} {ops:Array Oper} {Q:Exit→Act→World→Prop} {S:World→Prop} {a:Act} {w:World} (hm:P.follows .mixedOrders=true) (hnd:ops.all noDefer=true) (hlo:¬ LetsOut Q)
  (h:wpAnyH P .any ops Q S ops.size (Array.replicate ops.size false) a w.drew):(Code.region id ops true).wpIn (Fence.wide.inRound l) n P Q a w:=by
 refine wpIn_region_any hm ?_
 refine wpAny_in hlo (fun j o ho c e=>?_) _ _ _ _ (wpAny_of_held _ _ _ _ h)
 have h2:=Array.all_eq_true.1 hnd j (Array.getElem?_eq_some_iff.1 ho).1
 rw [(Array.getElem?_eq_some_iff.1 ho).2] at h2
 simp [noDefer,e] at h2
theorem wpAnyH_one {P:Program} {md:Region.Mode} {ops:Array Oper} {Q:Exit→Act→World→Prop} {S:World→Prop} {i fuel:Nat} {o:Oper} {listed:Array Bool} {a:Act} {w:World} (hr:Region.ready md ops listed = [i]) (ho:ops[i]?=some o) (hg:o.guard=none)
  (h:∀ K:Act→World→Prop,(∀ a' w',S w'→wpAnyH P md ops Q S fuel (listed.setIfInBounds i true) a' w'→K a' w')→o.wp P a w K Q):wpAnyH P md ops Q S (fuel+1) listed a w:=by
 refine wpAnyH_all hr (by simp) fun j hj=>?_
 obtain rfl:j=i:=by simpa using hj
 unfold wpOp
 rw [ho]
 have hw:Region.wanted o (yielded ops a.tmps)=true:=by simp [Region.wanted,hg]
 simp only [hw,if_true]
 exact .inl (h _ fun a' w' hs h'=>⟨hs,h'⟩)
theorem wpAnyH_two {P:Program} {md:Region.Mode} {ops:Array Oper} {Q:Exit→Act→World→Prop} {S:World→Prop} {i j fuel:Nat} {o p:Oper} {listed:Array Bool} {a:Act} {w:World} (hr:Region.ready md ops listed = [i,j]) (ho:ops[i]?=some o) (hg:o.guard=none) (hp:ops[j]?=some p) (hg' : p.guard=none)
  (h:∀ K:Act→World→Prop,(∀ a' w',S w'→wpAnyH P md ops Q S fuel (listed.setIfInBounds i true) a' w'→K a' w')→o.wp P a w K Q)
  (h' : ∀ K:Act→World→Prop,(∀ a' w',S w'→wpAnyH P md ops Q S fuel (listed.setIfInBounds j true) a' w'→K a' w')→p.wp P a w K Q):wpAnyH P md ops Q S (fuel+1) listed a w:=by
 refine wpAnyH_all hr (by simp) fun k hk=>?_
 rcases List.mem_cons.1 hk with rfl | hk
 ·unfold wpOp
  rw [ho]
  have hw:Region.wanted o (yielded ops a.tmps)=true:=by simp [Region.wanted,hg]
  simp only [hw,if_true]
  exact .inl (h _ fun a' w' hs h'=>⟨hs,h'⟩)
 ·obtain rfl:k=j:=by simpa using hk
  unfold wpOp
  rw [hp]
  have hw:Region.wanted p (yielded ops a.tmps)=true:=by simp [Region.wanted,hg']
  simp only [hw,if_true]
  exact .inl (h' _ fun a' w' hs h'=>⟨hs,h'⟩)
theorem OwC.tbC {C:Nat→Prop} {base:Nat} {w:World} {va:Option Addr} {n vc:Nat} {l:List (Sp.Bs×Int)} {x:Sp.Bs} (h:OwC base w (.slice va n vc) l) (hC:∀ b,base≤b→C b) (hl:l.length≤50):Tb1C C w ⟨x,l, []⟩ ⟨bz x,va,n,vc,none,0,0⟩:=by
 have h1:=h.tb (Gr.refl w) hl
 have hb:=ownsV_block h
 refine ⟨rfl,?_,hl,rfl, .inl ⟨rfl,rfl,rfl⟩,by simp⟩
 rcases h1.cols with h2 | ⟨b,off,e1,e2,e3,e4⟩
 ·exact .inl h2
 ·refine .inr ⟨b,off,e1,e2,?_,e4⟩
  have e1' : va=some ⟨b,off,none⟩:=e1
  exact hC b (hb b (by rw [e1'];rfl)).1
theorem flat3 (ns:List (Sp.Nm×Int)) (j d:Nat) (hj:j<ns.length) (hd:d<3):(ns.flatMap colC)[j*3+d]?=(colC ns[j])[d]?:=by
 have h:=flat_pos 3 (ns.map colC) (fun x hx=>by obtain ⟨n,_,rfl⟩:=List.mem_map.1 hx;rfl) j d (colC ns[j]) (by simp [hj]) hd
 rw [List.flatMap_def]
 exact h
theorem cell_alD {w:World} {b o:Nat} {v:Value} {ob:Obj} (h:w.cell? ⟨b,o,none⟩=some v):(w.alloc ob).cell? ⟨b,o,none⟩=some v:=(((Gr.refl w).alloc ob).cell (p:=⟨b,o,none⟩) (cell_lt h)).trans h
theorem col_box {w1 wr w3 w5:World} {x y z:Value} {va:Option Addr} {j vc:Nat} {xs:List Value} {o:Obj} (hB:B3 wr w1.heap.size x y z) (_hBl:RowKit.Below w1.heap.size w1 wr) (h3:RowKit.Below wr.heap.size wr w3) (hg:(w3.alloc o).grownBy w5 (Value.slice va j vc).ownBlock) (hO:(w3.alloc o).ownsRow (w1.heap.size+1) 264 2 (.slice va j vc) j xs):B3 w5 w1.heap.size x y z:=by
 have hz:=h3.size
 have hlt:=hB.lt
 refine hB.same (by have:=hg.size;simp at this;omega) ?_
 refine (hg.block _ (by simp;omega) (fun e=>by have:=(ownsV_block hO _ e.symm).1;omega)).trans ((Below.heap_alloc w3 _ _ (by omega)).trans (h3.block _ hlt))
theorem col_next {w1 wr w3 w5:World} {nv:Value} {va:Option Addr} {j vc g' c' : Nat} {cs:List (Sp.Bs×Int)} {cw:Sp.Bs} {ct:Int} {o:Obj} (hB:B3 w5 w1.heap.size nv (.slice va j vc) (.slice none 0 0)) (hBl:RowKit.Below w1.heap.size w1 wr) (h3:RowKit.Below wr.heap.size wr w3) (hg:(w3.alloc o).grownBy w5 (Value.slice va j vc).ownBlock) (hO:(w3.alloc o).ownsRow (w1.heap.size+1) 264 2 (.slice va j vc) j (enCs cs)) (hown:w5.ownsRow (w1.heap.size+1) 264 2 (.slice (some ⟨g',0,none⟩) (j+1) c') (j+1) (enCs cs ++ [.string (bz cw), .int .i64 ct])) (hl:cs.length=j) :
  B3 (w5.setCell ⟨w1.heap.size,1,none⟩ (.slice (some ⟨g',0,none⟩) (j+1) c')) w1.heap.size nv (.slice (some ⟨g',0,none⟩) (j+1) c') (.slice none 0 0)∧OwC (w1.heap.size+1) (w5.setCell ⟨w1.heap.size,1,none⟩ (.slice (some ⟨g',0,none⟩) (j+1) c')) (.slice (some ⟨g',0,none⟩) (j+1) c') (cs ++ [(cw,ct)])∧RowKit.Below w1.heap.size w1 (w5.setCell ⟨w1.heap.size,1,none⟩ (.slice (some ⟨g',0,none⟩) (j+1) c')):=by
 have hz:wr.heap.size≤w3.heap.size:=h3.size
 have hz1:w1.heap.size≤wr.heap.size:=hBl.size
 refine ⟨?_,?_,?_⟩
 ·obtain ⟨lt,c0,c1,c2,f0,f1,f2⟩:=hB
  refine ⟨by simpa [World.setCell] using lt,?_,?_,?_,?_,?_,?_⟩ <;> go_simp
 ·unfold OwC
  rw [← enCs_snoc,List.length_append,hl]
  have hk:=ownsV_block hown
  obtain ⟨h1,h | ⟨g,cap,cur,hv,h0,hc,r⟩⟩:=hown
  ·cases h.1
  ·have hgg:g=g':=by injection hv with e1 _ _;injection e1 with e1;injection e1 with e1;exact e1.symm
   subst hgg
   exact ⟨h1, .inr ⟨g,cap,cur,hv,h0,(Below.heap_setCell _ _ _ _ (show g≠w1.heap.size by omega)).trans hc,r⟩⟩
 ·have hb:RowKit.Below w1.heap.size w1 (w3.alloc o):=(hBl.trans (h3.mono hz1)).alloc (by omega) _
  have h5:RowKit.Below w1.heap.size w1 w5:=⟨hg.os.trans hb.os,hg.tape.trans hb.tape,hg.output.trans hb.output,Nat.le_trans hb.size hg.size,fun k hk=>(hg.block k (by have:=hb.size;omega) (fun e=>by have:=(ownsV_block hO k e.symm).1;omega)).trans (hb.block k hk)⟩
  exact h5.setCell (p:=⟨w1.heap.size,1,none⟩) (Nat.le_refl _) _
theorem newTable_any {C:Nat→Prop} {nm:Sp.Nm} {ns:List (Sp.Nm×Int)} {lo hi:Nat} {pv:Value} {w:World} (hC:∀ j,w.heap.size≤j→C j) (hV:CrV w nm ns lo hi pv) (hh:hi≤w.heap.size) (hn:ns.length≤50) (hs:(bz nm.1).size≤100000) (hs2:∀ x∈ns,(bz x.1.1).size≤100000) :
  Calls Tryz.prog 87 #[pv] w fun e w'=>∃ v,e = .returned v∧(∃ V,v=enT V∧Tb1C C w' ⟨nm.1,ns.map fun x=>(x.1.1,x.2), []⟩ V)∧RowKit.Below w.heap.size w w':=by
 obtain ⟨q,sl,rfl,l1,l2,hA,g,kc,rfl,g1,g2,hcl⟩:=hV
 have b0:=hA.k0
 have b2:=hA.k2
 have hqw:=hA.1
 have HCl:=hid hcl
 have HC:=hid hC
 have HK:=hid (fun w'=>clone_any (bz nm.1) w' hs)
 have HS2:=hid hs2
 obtain ⟨n,hnn⟩:∃ n,n=ns.length:=⟨_,rfl⟩
 have HN:=hid hnn
 rw [← hnn] at b2 hn
 obtain ⟨i0,ji,jz0,jz1,jz2⟩:=info_parts infoCol
 have G0:=hid ((Gr.refl w).alloc (.cells #[.string ⟨#[]⟩, .slice none 0 0, .slice none 0 0] 187))
 clear hA hcl hC hs2 hnn
 go_enter Tryz.func87,Tryz.ntmps87
 go_wp2_with fail
 refine (HK.out _).mono ?_
 rintro e w1 ⟨rfl,b1⟩
 have HRs:Hid (B3 w1 w.heap.size (.string ⟨#[]⟩) (.slice none 0 0) (.slice none 0 0)):=(B3.new w _ _ _ _).same b1.size (b1.block _ (by simp))
 have HB1:Hid (RowKit.Below w.heap.size w w1):=G0.out.below.trans (b1.mono G0.out.size)
 have hz1:w.heap.size+1≤w1.heap.size:=by have:=b1.size;simpa using this
 have c2:=(HB1.out.cell (p:=⟨q,2,none⟩) hqw).trans b2
 have hqw1:q<w1.heap.size:=by omega
 clear b1
 go_wp2_with fail
 go_loopw [18] (fun i wr=>∃ (j:Nat) (va:Option Addr) (vc:Nat),j≤n∧i = .int .i64 (j:Nat)∧Hid (B3 wr w1.heap.size (.string (bz nm.1)) (.slice va j vc) (.slice none 0 0))∧Hid (OwC (w1.heap.size+1) wr (.slice va j vc) ((ns.take j).map fun x=>(x.1.1,x.2)))∧Hid (RowKit.Below w1.heap.size w1 wr)) (fun i _=>n - (intOf i).toNat)
 case atStart=>exact ⟨0,none,0,Nat.zero_le _,rfl,B3.new w1 _ _ _ _,OwC.nil _ _,((Gr.refl w1).alloc _).below⟩
 case round=>
  obtain ⟨j,va,vc,hj,rfl,HBm,HOw,HBl⟩:=hrel
  by_cases hlt:j<n
  ·have hjs:j<ns.length:=by have:=HN.out;omega
   have y0:=HCl.out (j*3+0) _ ((flat3 ns j 0 hjs (by omega)).trans rfl)
   have y1:=HCl.out (j*3+1) _ ((flat3 ns j 1 hjs (by omega)).trans rfl)
   have y2:=HCl.out (j*3+2) _ ((flat3 ns j 2 hjs (by omega)).trans rfl)
   rw [Nat.add_zero] at y0
   have hgw:g<w.heap.size:=by omega
   have hgw1:g<w1.heap.size:=by omega
   have a0:=(HBl.out.cell (p:=⟨g,j*3,none⟩) hgw1).trans ((HB1.out.cell (p:=⟨g,j*3,none⟩) hgw).trans y0)
   have a1:=(HBl.out.cell (p:=⟨g,j*3+1,none⟩) hgw1).trans ((HB1.out.cell (p:=⟨g,j*3+1,none⟩) hgw).trans y1)
   have a2:=(HBl.out.cell (p:=⟨g,j*3+2,none⟩) hgw1).trans ((HB1.out.cell (p:=⟨g,j*3+2,none⟩) hgw).trans y2)
   have HTk:Hid ((ns.take (j+1)).map (fun x=>(x.1.1,x.2))=(ns.take j).map (fun x=>(x.1.1,x.2)) ++ [(ns[j].1.1,ns[j].2)]):=by show _=_;rw [List.take_succ_eq_append_getElem hjs,List.map_append];rfl
   have HKc:=hid (fun w'=>clone_any (bz ns[j].1.1) w' (HS2.out _ (List.getElem_mem hjs)))
   have hlj:((ns.take j).map fun x=>(x.1.1,x.2)).length=j:=by rw [List.length_map,List.length_take];omega
   obtain ⟨sx,hsx⟩:∃ sx,sx=ns[j]:=⟨_,rfl⟩
   rw [← hsx] at a0 a1 a2 HTk HKc
   clear hsx y0 y1 y2
   obtain ⟨⟨cw,ca⟩,ct⟩:=sx
   simp only [] at a0 a1 a2 HTk HKc
   have hO:wr.ownsRow (w1.heap.size+1) 264 2 (.slice va j vc) j (enCs ((ns.take j).map fun x=>(x.1.1,x.2))):=by have h:=HOw.out;unfold OwC at h;rw [hlj] at h;exact h
   have HO:=hid hO
   generalize hcs:(ns.take j).map (fun x=>(x.1.1,x.2))=cs at *
   clear hcs hO
   obtain ⟨m0,m1,m2,m3,m4,m5,m6⟩:=HBm.out
   have hz:=HBl.out.size
   have hjb:j<50:=by omega
   obtain ⟨wA,hwA⟩:∃ wA,wA=wr.alloc (.cells #[.string (bz cw), .int .i64 (ca:Int), .int .i64 ct] 228):=⟨_,rfl⟩
   have GA:Hid (Gr wr wA):=by show Gr _ _;rw [hwA];exact (Gr.refl wr).alloc _
   have hzA:wA.heap.size=wr.heap.size+1:=by rw [hwA];simp
   have z0:wA.cell? ⟨wr.heap.size,0,none⟩=some (.string (bz cw)):=by rw [hwA];simp
   have z2:wA.cell? ⟨wr.heap.size,2,none⟩=some (.int .i64 ct):=by rw [hwA];simp
   have p0:=(GA.out.cell (p:=⟨w1.heap.size,1,none⟩) m0).trans m2
   have p1:=(GA.out.frozen (p:=⟨w1.heap.size,1,none⟩) m0).trans m5
   go_wp2_with fail
   rw [← hwA]
   clear hwA a0 a1 a2
   go_region_law (first
    | (have _hx:=hO5;refine step_append_lies _ (by rfl) _ _ _ (by rfl) (w1.heap.size+1) 264 i0 (.agg #[.string ⟨#[]⟩, .int .i64 0]) 2 24 Tryz.underlying185 ji jz0 jz1 jz2 rfl (by omega) (.slice va j vc) j (enCs cs) (by rfl) hO5 ⟨w3.heap.size,0,none⟩ 1 1 [.string (bz cw), .int .i64 ct] (by rfl) (by rfl) (World.news_of_block (cs:=#[.string (bz cw), .int .i64 ct]) (t:=264) (fr:=(0,0)) (heap_alloc_new w3 _)) (two_one _ _) (by omega) (by unfold maxLen;omega) (by omega) (by simp;omega) (w3.heap.size+1) (by simp) ?_;intro g' kc' w5 hown hgrow hat hlt';have hB5:=col_box HBm.out (HBl.out) HB3.out hgrow hO5;obtain ⟨v0,v1,v2,v3,v4,v5,v6⟩:=hB5)
    | (go_simp;go_at_call 142;refine (HKc.out _).mono ?_;rintro e3 w3 ⟨rfl,bl3⟩;have HB3:Hid (RowKit.Below wr.heap.size wr w3):=((GA.out.drew).below.trans (bl3.mono GA.out.drew.size));have hz3:=HB3.out.size;have hzw:wr.heap.size+1≤w3.heap.size:=(by have h:=bl3.size;have h' : wA.heap.size≤w3.heap.size:=h;omega);have q0:=(bl3.cell (p:=⟨wr.heap.size,0,none⟩) (by show wr.heap.size<wA.heap.size;omega)).trans z0;have q2:=(bl3.cell (p:=⟨wr.heap.size,2,none⟩) (by show wr.heap.size<wA.heap.size;omega)).trans z2;have r0:=(bl3.cell (p:=⟨w1.heap.size,1,none⟩) (by show w1.heap.size<wA.heap.size;omega)).trans p0;have hlt3:w1.heap.size<w3.heap.size:=(by omega);have hlt4:wr.heap.size<w3.heap.size:=(by omega);have r1:=cell_alD (ob := .cells #[.string (bz cw), .int .i64 ct] 264) r0;have hO5:(w3.alloc (.cells #[.string (bz cw), .int .i64 ct] 264)).ownsRow (w1.heap.size+1) 264 2 (.slice va j vc) j (enCs cs):=ownsV_below (ownsV_below HO.out HB3.out) ((Gr.refl w3).alloc _).below;clear bl3))
   all_goals
    have HX:=hid (col_next ⟨v0,v1,v2,v3,v4,v5,v6⟩ HBl.out HB3.out hgrow hO5 hown hlj)
    clear hown hgrow hat hO5 _hx
    go_wp2_with fail
    go_roundw
    case rel=>exact ⟨j+1,some ⟨g',0,none⟩,kc',by omega,by go_num,HX.out.1,by rw [HTk.out];exact HX.out.2.1,HX.out.2.2⟩
    case measure=>simp [intOf];omega
  ·obtain rfl:j=n:=by omega
   have HOf:Hid (OwC (w1.heap.size+1) wr (.slice va j vc) (ns.map fun x=>(x.1.1,x.2))):=by
    have h:=HOw.out
    rw [HN.out,List.take_length] at h
    rw [HN.out]
    exact h
   have hz:=HBl.out.size
   have HRr:Hid (B3 wr w.heap.size (.string ⟨#[]⟩) (.slice none 0 0) (.slice none 0 0)):=HRs.out.same HBl.out.size (HBl.out.block _ HRs.out.lt)
   obtain ⟨m0,m1,m2,m3,m4,m5,m6⟩:=HBm.out
   obtain ⟨r0,r1,r2,r3,r4,r5,r6⟩:=HRr.out
   have HBw:Hid (RowKit.Below w.heap.size w wr):=HB1.out.trans (HBl.out.mono (by omega))
   clear hlt
   go_wp2_with fail
   refine bodyPost_ret (v := .agg #[.string (bz nm.1), .slice va j vc, .slice none 0 0]) (by simp [results,Tryz.results87,go_sem,r1,r2,r3]) rfl ⟨_,rfl,⟨⟨bz nm.1,va,j,vc,none,0,0⟩,rfl,?_⟩,?_⟩
   ·have h1:Tb1C (fun b=>w1.heap.size+1≤b) wr ⟨nm.1,ns.map fun x=>(x.1.1,x.2), []⟩ ⟨bz nm.1,va,j,vc,none,0,0⟩:=HOf.out.tbC (fun b hb=>hb) (by rw [List.length_map,← HN.out];exact hn)
    refine (h1.blk (by simp [World.setCell]) fun b hb _=>?_).to fun b hb _=>HC.out b (by omega)
    exact (Below.heap_setCell _ _ _ _ (show b≠w.heap.size by omega)).trans ((Below.heap_setCell _ _ _ _ (show b≠w.heap.size by omega)).trans (Below.heap_setCell _ _ _ _ (show b≠w.heap.size by omega)))
   ·exact ((HBw.out.setCell (p:=⟨w.heap.size,0,none⟩) (Nat.le_refl _) _).setCell (p:=⟨w.heap.size,1,none⟩) (Nat.le_refl _) _).setCell (p:=⟨w.heap.size,2,none⟩) (Nat.le_refl _) _
end Go.Proofs.YtgnncnhkgmhngaaGreatDoor
